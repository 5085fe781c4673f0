"""The desk's lines: what their words tell, and which word is wrong."""

from spoolhall.errors import BadLine
from spoolhall.words import is_name, number_in, words_of

NUMBER_MOST = 999999999
PATH_MOST = 4
ROOM_LEAST = 32
RANK_MOST = 9
SHARE_MOST = 10
STEPS_MOST = 999
JOB = "job"
PRINTER = "printer"
CAN = ("both", "colour", "staple")


def a_name(word):
    """The word, if it is a name, else None."""
    return word if is_name(word) else None


def a_number(word):
    """A number from 1 on, or None."""
    return number_in(word, 1, NUMBER_MOST)


def a_number_or_nought(word):
    """A number from 0 on, or None."""
    return number_in(word, 0, NUMBER_MOST)


def a_path(word):
    """A printer's path, or None."""
    return number_in(word, 1, PATH_MOST)


def an_ink_room(word):
    """A room for ink, or None."""
    return number_in(word, ROOM_LEAST, NUMBER_MOST)


def a_rank(word):
    """An asker's rank, or None."""
    return number_in(word, 0, RANK_MOST)


def a_share(word):
    """An asker's share, or None."""
    return number_in(word, 1, SHARE_MOST)


def some_steps(word):
    """How many steps, or None."""
    return number_in(word, 1, STEPS_MOST)


# What reads each word behind a line's first one; a printer's options come behind these.
SHAPES = {
    "printer": (a_name, a_path, an_ink_room, an_ink_room),
    "asker": (a_name, a_rank, a_share),
    "start": (a_name,),
    "step": (a_name, some_steps),
    "jam": (a_name, a_number_or_nought),
    "leave": (a_name,),
    "mend": (a_name,),
    "come": (a_name,),
    "load": (a_name, a_name, a_number),
    "fill": (a_name, a_number_or_nought, a_number_or_nought),
    "take": (a_name, a_name),
    "drop": (a_name,),
    "how": (a_name,),
    "ahead": (a_name,),
    "never": (),
    "heap": (a_name,),
    "sums": (a_name,),
    "plan": (a_name,),
    "hand": (a_name,),
}


def read_line(line):
    """The line's first word and a list of what the others tell, or BadLine."""
    words = words_of(line)
    first = words[0]
    if first == JOB:
        # A job's line is read by the hall.
        return (first, [" ".join(words[1:])])
    if first not in SHAPES:
        raise BadLine(0)
    if first == PRINTER:
        return (first, read_printer(words))
    return (first, values_of(words, SHAPES[first]))


def values_of(words, shape):
    """What the words behind the first tell, each read by its place's part of the shape."""
    values = []
    for place, word in enumerate(words[1:]):
        value = shape[place](word) if place < len(shape) else None
        if value is None:
            raise BadLine(place + 1)
        values.append(value)
    if len(values) < len(shape):
        raise BadLine(len(words))
    return values


def read_printer(words):
    """What a printer is made of: name, can, path, papers, black, colour."""
    shape = SHAPES[PRINTER]
    head = values_of(words[:len(shape) + 1], shape)
    can = []
    papers = {}
    for place, word in enumerate(words[len(shape) + 1:], start=len(shape) + 1):
        tray = tray_in(word)
        if word in CAN and word not in can:
            can.append(word)
        elif tray is not None and tray[0] not in papers:
            papers[tray[0]] = tray[1]
        else:
            raise BadLine(place)
    if not papers:
        raise BadLine(len(words))
    return [head[0], can, head[1], papers, head[2], head[3]]


def tray_in(word):
    """The kind and the room of KIND:N, or None."""
    parts = word.split(":")
    if len(parts) != 2 or not is_name(parts[0]):
        return None
    room = a_number(parts[1])
    return None if room is None else (parts[0], room)
