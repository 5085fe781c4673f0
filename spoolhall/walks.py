"""The hand's ways to a printer's trays: as few as can be, and the windows that show it."""

from spoolhall.errors import NoWay


def walks(rooms, held, needs):
    """The places of the jobs ahead of which the hand fills all trays, and a window for each."""
    must_fit(rooms, needs)
    ways = []
    windows = []
    left = held
    for place, need in enumerate(needs):
        dry = first_dry(left, need)
        # To go as late as can be is best: whatever was filled in ahead is filled in here, too.
        if dry is not None:
            windows.append((dry, ways[-1] + 1 if ways else 0, place))
            ways.append(place)
            left = rooms
        left = drawn(left, need)
    return (ways, windows)


def must_fit(rooms, needs):
    """Refuses jobs of which one needs more of a tray than its room."""
    for place, need in enumerate(needs):
        if first_dry(rooms, need) is not None:
            raise NoWay(place)


def first_dry(left, need):
    """The first tray that has fewer than the job needs of it, or None."""
    for tray, many in need:
        if left[tray] < many:
            return tray
    return None


def drawn(left, need):
    """What is left in the trays behind a job."""
    told = list(left)
    for tray, many in need:
        told[tray] -= many
    return told
