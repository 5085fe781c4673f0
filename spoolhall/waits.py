"""Who waits for whom: rings, orders, and those that wait for ever."""

from spoolhall.errors import GoesRound


def ring(waits):
    """A ring of the dict's own names, or None."""
    free = settled(waits, {})
    for name in waits:
        if name not in free:
            chain = chain_from(name, waits, {}, free)
            return chain[chain.index(chain[-1]):-1]
    return None


def order(waits):
    """The dict's names, each behind all that it waits for, or GoesRound."""
    round_way = ring(waits)
    if round_way is not None:
        raise GoesRound(round_way)
    return list(settled(waits, {}))


def doomed(waits, gone):
    """The names that wait for ever, each with a chain that shows it."""
    ends = dict([(name, True) for name in gone])
    free = settled(waits, ends)
    return dict([(name, chain_from(name, waits, ends, free)) for name in waits if name not in free])


def settled(waits, ends):
    """A dict of the names that do not wait for ever, each behind all own ones that it waits for."""
    free = {}
    known = -1
    while known < len(free):
        known = len(free)
        for name in waits:
            # A name that is none's own, and not gone either, makes nobody wait for ever.
            if name not in free and first_bar(name, waits, ends, free) is None:
                free[name] = True
    return free


def first_bar(name, waits, ends, free):
    """The first for which the name waits that is gone, or own and not free; None where there is none."""
    for other in waits[name]:
        if other in ends or (other in waits and other not in free):
            return other
    return None


def chain_from(name, waits, ends, free):
    """A chain from a name that is not free to one that is gone, or that stands in the chain ahead."""
    chain = [name]
    closed = False
    while not closed:
        # Behind a name that is not free always stands one that is gone or not free.
        link = first_bar(chain[-1], waits, ends, free)
        closed = link in ends or link in chain
        chain.append(link)
    return chain
