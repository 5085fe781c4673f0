"""Heaps: the tags that came out of printers, and the jobs that are put together out of them."""

from spoolhall.errors import NoHeap

SLIP = -1


def pieces(heap):
    """The heap's pieces, (name, numbers) for each slip."""
    told = []
    for place, tag in enumerate(heap):
        if tag[1] == SLIP:
            told.append((tag[0], []))
        elif told and told[-1][0] == tag[0]:
            told[-1][1].append(tag[1])
        else:
            raise NoHeap(place)
    return told


def gathered(heaps, name):
    """The job's pieces that have sheets, (printer, numbers), sorted by their first numbers."""
    found = []
    for printer, heap in heaps.items():
        # A heap is looked at whatever job is asked for: so one that is none never goes unseen.
        for owner, numbers in pieces(heap):
            if owner == name and numbers:
                found.append((printer, numbers))
    return sorted(found, key=lambda part: part[1][0])


def first_lack(heaps, name, total):
    """The least of the job's numbers that lies in no heap, or None."""
    lying = {}
    for part in gathered(heaps, name):
        for number in part[1]:
            lying[number] = True
    for number in range(total):
        if number not in lying:
            return number
    return None
