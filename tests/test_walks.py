"""The hand's ways: as few as can be, and the windows that show it (point 30)."""

import copy
import itertools
import random
import unittest

from helping import GREAT, HallTest

from spoolhall.errors import NoWay
from spoolhall.walks import walks

# Rooms, what is held, needs, and the fewest ways.
KNOWN = (
    ([], [], [], 0),
    ([], [], [[], []], 0),
    ([5], [5], [], 0),
    ([5], [0], [], 0),
    ([5], [0], [[]], 0),
    ([5], [0], [[(0, 0)]], 0),
    ([5], [0], [[(0, 1)]], 1),
    ([5], [5], [[(0, 5)]], 0),
    ([5], [4], [[(0, 5)]], 1),
    ([1], [0], [[(0, 1)]] * 5, 5),
    ([1], [1], [[(0, 1)]] * 5, 4),
    ([2], [1], [[(0, 1)]] * 5, 2),
    ([5], [5], [[(0, 5)], [(0, 0)], [(0, 5)]], 1),
    ([5], [3], [[(0, 3)], [(0, 2)], [(0, 3)], [(0, 1)]], 2),
    ([5, 5], [5, 0], [[(0, 5)], [(1, 1)], [(0, 5)]], 1),
    ([5, 5], [5, 5], [[(0, 5)], [(1, 5)], [(0, 5)], [(1, 5)]], 1),
    ([5, 5], [5, 5], [[(0, 5), (1, 5)], [(1, 1), (0, 1)]], 1),
    ([5, 5, 5], [5, 5, 5], [[(2, 4)], [(1, 4)], [(0, 4)], [(2, 2)], [(1, 2)], [(0, 2)]], 1),
    ([3, 9], [3, 9], [[(0, 1), (1, 5)], [(0, 1), (1, 5)], [(0, 1)], [(0, 1)], [(0, 1)]], 2),
    ([GREAT], [0], [[(0, GREAT)], [(0, GREAT)], [(0, 1)]], 3),
    ([GREAT, GREAT], [GREAT, GREAT - 1], [[(0, GREAT), (1, GREAT - 1)], [(1, 1)]], 1),
)


def fits(rooms, held, needs, ways):
    """Whether no tray ever holds fewer than a job needs, with the hand's ways played one by one."""
    left = list(held)
    for place, need in enumerate(needs):
        if place in ways:
            left = list(rooms)
        for tray, many in need:
            left[tray] -= many
        if any(many < 0 for many in left):
            return False
    return True


def fewest_by_all(rooms, held, needs):
    """The fewest ways, by all choices of places."""
    for many in range(len(needs) + 1):
        for ways in itertools.combinations(range(len(needs)), many):
            if fits(rooms, held, needs, ways):
                return many
    return None


def need_of(tray, needs):
    """How many sheets of the tray these jobs need in all."""
    return sum(many for need in needs for place, many in need if place == tray)


def some_hall(chance):
    """Rooms, what is held and needs, none of them more than the rooms."""
    rooms = [chance.choice([1, 2, 3, 5, 8]) for tray in range(chance.randrange(1, 4))]
    held = [chance.choice([0, room, chance.randrange(room + 1)]) for room in rooms]
    needs = []
    for job in range(chance.randrange(9)):
        trays = chance.sample(range(len(rooms)), chance.randrange(len(rooms) + 1))
        needs.append([(tray, chance.randrange(rooms[tray] + 1)) for tray in trays])
    return rooms, held, needs


class Walks(HallTest):
    def is_right(self, rooms, held, needs):
        """The ways fit and the windows show that fewer do not; nothing handed in is changed."""
        kept = copy.deepcopy((rooms, held, needs))
        told = walks(rooms, held, needs)
        self.assertEqual((rooms, held, needs), kept)
        self.assertIs(type(told), tuple)
        ways, windows = told
        self.assertEqual((type(ways), type(windows)), (list, list))
        self.assertEqual(ways, sorted(set(ways)))
        self.assertTrue(all(0 <= place < len(needs) for place in ways))
        self.assertTrue(fits(rooms, held, needs, ways))
        self.windows_show(rooms, held, needs, windows)
        self.assertEqual(len(windows), len(ways))
        return ways

    def windows_show(self, rooms, held, needs, windows):
        """Each window begins behind the one ahead, and has a tray that does not do for it."""
        behind = -1
        for window in windows:
            self.assertIs(type(window), tuple)
            tray, first, last = window
            self.assertTrue(behind < first <= last < len(needs), windows)
            behind = last
            if first == 0:
                self.assertGreater(need_of(tray, needs[:last + 1]), held[tray])
            else:
                self.assertGreater(need_of(tray, needs[first - 1:last + 1]), rooms[tray])

    def test_known_ways(self):
        for rooms, held, needs, many in KNOWN:
            self.assertEqual(len(self.is_right(list(rooms), list(held), list(needs))), many, (rooms, held, needs))

    def test_no_ways_no_windows(self):
        for rooms, held, needs in (
            ([5], [5], []),
            ([5], [0], []),
            ([5], [0], [[], [], []]),
            ([5, 3], [0, 0], [[(0, 0)], [(1, 0), (0, 0)]]),
            ([5, 3], [5, 3], [[(0, 4)], [(0, 1), (1, 3)]]),
            ([7], [5], [[(0, 5)], [], [(0, 0)]]),
        ):
            self.assertEqual(walks(rooms, held, needs), ([], []))

    def test_ways_that_can_not_be_otherwise(self):
        self.assertEqual(walks([5], [0], [[(0, 1)]]), ([0], [(0, 0, 0)]))
        self.assertEqual(walks([5], [5], [[(0, 5)], [(0, 5)]]), ([1], [(0, 0, 1)]))
        ways = walks([1], [0], [[(0, 1)], [(0, 1)], [(0, 1)]])
        self.assertEqual(ways, ([0, 1, 2], [(0, 0, 0), (0, 1, 1), (0, 2, 2)]))
        ways = walks([1, 4], [1, 0], [[(0, 1)], [(0, 1), (1, 4)], [(1, 1)]])
        self.assertEqual(ways[0], [1, 2])

    def test_each_way_fills_all_trays(self):
        # What the second tray lacks is filled in when the hand goes for the first one.
        self.assertEqual(len(self.is_right([2, 2], [0, 1], [[(0, 1)], [(1, 2)], [(0, 1)]])), 1)
        self.assertEqual(len(self.is_right([2, 2], [1, 0], [[(0, 1)], [(1, 2)], [(0, 2)]])), 1)

    def test_a_room_of_one_and_one_of_many_figures(self):
        half = GREAT // 2
        needs = [[(0, 1), (1, half)], [(1, half)], [(0, 1)], [(1, 1)]]
        self.assertEqual(self.is_right([1, GREAT], [1, GREAT], needs), [2])
        self.assertEqual(len(self.is_right([1, GREAT], [0, GREAT], needs)), 2)
        self.assertEqual(len(self.is_right([1, GREAT], [1, 0], needs)), 2)

    def test_small_rows_by_all_choices(self):
        chance = random.Random(30)
        for many in range(600):
            rooms, held, needs = some_hall(chance)
            ways = self.is_right(rooms, held, needs)
            self.assertEqual(len(ways), fewest_by_all(rooms, held, needs), (rooms, held, needs))

    def test_all_rows_of_one_small_tray(self):
        for held in range(4):
            for row in itertools.product(range(4), repeat=4):
                needs = [[(0, many)] for many in row]
                self.assertEqual(len(self.is_right([3], [held], needs)), fewest_by_all([3], [held], needs))

    def test_long_rows(self):
        chance = random.Random(300)
        for figures in (1, 3, 59):
            rooms = [chance.randrange(10 ** figures // 2, 10 ** figures) for tray in range(300)]
            held = [chance.randrange(room + 1) for room in rooms]
            needs = [[(tray, chance.randrange(rooms[tray] + 1)) for tray in chance.sample(range(300), 20)]
                     for job in range(300)]
            self.assertTrue(self.is_right(rooms, held, needs))

    def test_just_the_room(self):
        for room in (1, 5, GREAT):
            self.assertEqual(self.is_right([room], [room], [[(0, room)]] * 3), [1, 2])
            self.assertEqual(self.is_right([room], [0], [[(0, room)]]), [0])

    def test_more_than_the_room(self):
        for rooms, held, needs, place in (
            ([5], [5], [[(0, 6)]], 0),
            ([5], [0], [[(0, 6)]], 0),
            ([5], [5], [[(0, 5)], [(0, 6)]], 1),
            ([5], [5], [[(0, 5)], [(0, 6)], [(0, 7)], [(0, 6)]], 1),
            ([5], [5], [[], [(0, 0)], [(0, 9)]], 2),
            ([5, 3], [5, 3], [[(0, 4)], [(0, 5), (1, 4)], [(0, 6)]], 1),
            ([5, 3], [5, 3], [[(0, 4)], [(1, 4), (0, 5)], [(0, 6)]], 1),
            ([5, 3], [0, 0], [[(1, 3)], [(1, 2)], [(0, 5), (1, 3)], [(1, 4)]], 3),
            ([1], [0], [[(0, 1)]] * 299 + [[(0, 2)]], 299),
            ([GREAT - 1], [0], [[(0, GREAT)]], 0),
        ):
            kept = copy.deepcopy((rooms, held, needs))
            self.refused(NoWay, {"place": place}, lambda: walks(rooms, held, needs))
            self.assertEqual((rooms, held, needs), kept)

    def test_what_is_told_is_the_askers_own(self):
        rooms, held, needs = [1], [0], [[(0, 1)], [(0, 1)]]
        first = walks(rooms, held, needs)
        rooms[0] = 9
        held.append(3)
        needs[0].clear()
        self.assertEqual(first, ([0, 1], [(0, 0, 0), (0, 1, 1)]))
        first[0].clear()
        first[1].clear()
        self.assertEqual(walks([1], [0], [[(0, 1)], [(0, 1)]]), ([0, 1], [(0, 0, 0), (0, 1, 1)]))


if __name__ == "__main__":
    unittest.main()
