"""Levels: how an asker's level grows and is lifted, and which asker goes first."""

# What each share from 1 to 10 divides: so no share loses anything by rounding.
COMMON = 2520


def grown(level, cost, share):
    """The level behind a take of this cost."""
    return level + cost * (COMMON // share)


def lifted(level, mark):
    """The level, or the mark where that is greater."""
    return max(level, mark)


def first_of(rows):
    """The place of the row, of (rank, level, asker), that goes first."""
    places = list(range(len(rows)))
    return min(places, key=lambda place: (-rows[place][0], rows[place][1], rows[place][2]))
