"""Jobs: how a line tells one, how one is written, and what it costs."""

from spoolhall.errors import BadLine
from spoolhall.words import is_layout, is_name, number_in, words_of

PAGES_MOST = 999
COPIES_MOST = 99
HEAD = 3
COPIES = "x"
COLOUR = "colour:"
PAPER = "paper:"
COVER = "cover:"
AFTER = "after:"
STAPLE = "staple"
LAYOUT = "layout"
ONE_COPY = 1
ONE_LAYOUT = "one"
PLAIN = "plain"


class Job:
    """What one asker wants to have printed."""

    def __init__(self, name, asker, pages, copies, layout, paper, cover, colour, staple, after):
        self.name = name
        self.asker = asker
        self.pages = pages
        self.copies = copies
        self.layout = layout
        self.paper = paper
        self.cover = cover
        self.colour = colour
        self.staple = staple
        self.after = after


def read_job(line):
    """The job that the line tells, or BadLine."""
    words = words_of(line)
    pages = read_head(words)
    told = {}
    for place, word in enumerate(words[HEAD:], start=HEAD):
        value = value_of(word, pages)
        sort = sort_of(word)
        if value is None or sort in told:
            raise BadLine(place)
        told[sort] = value
    return told_job(words, pages, told)


def read_head(words):
    """How many pages the job has, once its three first words are found right."""
    for place, word in enumerate(words[:HEAD - 1]):
        if not is_name(word):
            raise BadLine(place)
    if len(words) < HEAD:
        raise BadLine(len(words))
    pages = number_in(words[HEAD - 1], 1, PAGES_MOST)
    if pages is None:
        raise BadLine(HEAD - 1)
    return pages


def value_of(word, pages):
    """What a word behind the head tells, or None where it is wrong."""
    if word == STAPLE:
        return True
    if is_layout(word):
        return word
    if word.startswith(COPIES):
        return number_in(word[len(COPIES):], 1, COPIES_MOST)
    if word.startswith(COLOUR):
        return read_colour(word[len(COLOUR):], pages)
    for start in (PAPER, COVER, AFTER):
        if word.startswith(start) and is_name(word[len(start):]):
            return word[len(start):]
    return None


def sort_of(word):
    """The sort of a right word, of which a line has one at most."""
    if is_layout(word):
        return LAYOUT
    # Each name may be told after once: so each is a sort of its own.
    for start in (COPIES, COLOUR, PAPER, COVER):
        if word.startswith(start):
            return start
    return word


def read_colour(span, pages):
    """The first and the last coloured page of A-B, or None."""
    ends = span.split("-")
    if len(ends) != 2:
        return None
    first = number_in(ends[0], 1, pages)
    if first is None:
        return None
    last = number_in(ends[1], first, pages)
    return None if last is None else (first, last)


def told_job(words, pages, told):
    """The job of right words, with what holds where a word is not told."""
    copies = told.get(COPIES, ONE_COPY)
    layout = told.get(LAYOUT, ONE_LAYOUT)
    paper = told.get(PAPER, PLAIN)
    staple = told.get(STAPLE, False)
    after = tuple([told[sort] for sort in told if sort.startswith(AFTER)])
    return Job(words[0], words[1], pages, copies, layout, paper, told.get(COVER), told.get(COLOUR), staple, after)


def written(job):
    """The line that tells the job, with nothing in it that holds untold."""
    words = [job.name, job.asker, str(job.pages)]
    if job.copies != ONE_COPY:
        words.append(COPIES + str(job.copies))
    if job.layout != ONE_LAYOUT:
        words.append(job.layout)
    if job.colour is not None:
        words.append(COLOUR + str(job.colour[0]) + "-" + str(job.colour[1]))
    if job.paper != PLAIN:
        words.append(PAPER + job.paper)
    if job.cover is not None:
        words.append(COVER + job.cover)
    if job.staple:
        words.append(STAPLE)
    words.extend([AFTER + name for name in job.after])
    return " ".join(words)


def cost(job):
    """What the job costs: its pages times its copies."""
    return job.pages * job.copies
