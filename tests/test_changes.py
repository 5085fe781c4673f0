"""Changes of paper: how many, the fewest, and what each state costs (point 29)."""

import copy
import itertools
import random
import unittest

from helping import HallTest

from spoolhall.changes import changes_of, fewest
from spoolhall.errors import TooMuch

LOADED = ("", "a", "b", "c", "z")

# Rows of up to eight jobs, with the fewest changes from no kind and from the kind a.
KNOWN = (
    ([], 0, 0),
    ([[]], 0, 0),
    ([[], [], []], 0, 0),
    ([["a"]], 1, 0),
    ([["b"]], 1, 1),
    ([["a", "a", "a"]], 1, 0),
    ([["a", "b", "a", "b"]], 4, 3),
    ([["a"], ["b"], ["a"]], 2, 1),
    ([["b"], ["a"], ["b"], ["a"]], 2, 1),
    ([["b", "a"], ["b", "a"]], 2, 2),
    ([["a", "b"], ["b", "a"]], 3, 2),
    ([["a", "b", "a"], [], ["a", "b", "a"]], 3, 2),
    ([["a", "b", "c"], ["c", "b", "a"]], 5, 4),
    ([["a", "b", "c", "d"], ["a", "b", "c", "d"]], 4, 3),
    ([["a", "b", "c", "d"], ["d", "c", "b", "a"]], 7, 6),
    ([["a"], ["b"], ["c"], ["d"], ["e"], ["f"], ["g"], ["h"]], 8, 7),
    ([["a"]] * 8, 1, 0),
    ([["b"]] * 8, 1, 1),
    ([["a", "b"], ["a", "b"], ["b", "a"], ["b", "a"]], 3, 2),
)


def slow_changes(kinds, loaded):
    """How often a kind is unlike the one ahead, counted one by one."""
    many = 0
    for kind in kinds:
        many += kind != loaded
        loaded = kind
    return many


def mixings(rows):
    """All ways to mix the rows, as lists of the rows' places."""
    flat = [place for place, row in enumerate(rows) for job in row]
    return sorted(set(itertools.permutations(flat)))


def kinds_by(order, rows):
    """The kinds in the order in which they are done."""
    left = [list(row) for row in rows]
    return [left[place].pop(0) for place in order]


def states_by_all(rows, loaded):
    """Each state with its price, by all mixings of the rows."""
    prices = {}
    for order in mixings(rows):
        kinds = kinds_by(order, rows)
        for many in range(len(order) + 1):
            done = tuple(order[:many].count(place) for place in range(len(rows)))
            state = (done, kinds[many - 1] if many else loaded)
            rest = slow_changes(kinds[many:], state[1])
            prices[state] = min(prices.get(state, rest), rest)
    return prices


class Changes(HallTest):
    def test_no_kinds(self):
        for loaded in LOADED:
            self.assertEqual(changes_of([], loaded), 0)

    def test_one_kind(self):
        self.assertEqual(changes_of(["a"], "a"), 0)
        self.assertEqual(changes_of(["a"], "b"), 1)
        self.assertEqual(changes_of(["a"], ""), 1)

    def test_several(self):
        for kinds, loaded, many in (
            (["a", "a"], "a", 0),
            (["a", "a"], "b", 1),
            (["a", "a"], "", 1),
            (["a", "b"], "a", 1),
            (["a", "b"], "b", 2),
            (["a", "b", "a"], "", 3),
            (["a", "b", "b", "a", "a"], "a", 2),
            (["a", "b", "c", "b", "a"], "a", 4),
            (["a", "b"] * 150, "b", 300),
            (["a", "b"] * 150, "a", 299),
            (["a"] * 300, "a", 0),
            (["a"] * 300, "b", 1),
            ((["a"] * 3 + ["b"] * 2) * 60, "", 120),
        ):
            self.assertEqual(changes_of(kinds, loaded), many)

    def test_only_the_one_ahead_counts(self):
        self.assertEqual(changes_of(["a", "b", "a"], "b"), 3)
        self.assertEqual(changes_of(["b", "a", "b"], "b"), 2)

    def test_long_lists(self):
        chance = random.Random(29)
        for many in range(60):
            kinds = [chance.choice(["a", "a", "b", "c", "plain"]) for job in range(chance.randrange(301))]
            for loaded in ("", "a", "plain", "z"):
                kept = list(kinds)
                self.assertEqual(changes_of(kinds, loaded), slow_changes(kinds, loaded))
                self.assertEqual(kinds, kept)


class Fewest(HallTest):
    def is_right(self, rows, loaded, told):
        """What is told is an order, as many changes as it has, and the prices of states without twins."""
        self.assertIs(type(told), tuple)
        order, many, prices = told
        self.assertIs(type(order), list)
        self.assertIs(type(many), int)
        self.assertIs(type(prices), list)
        self.assertEqual(sorted(order), [place for place, row in enumerate(rows) for job in row])
        self.assertEqual(slow_changes(kinds_by(order, rows), loaded), many)
        states = {}
        for row in prices:
            self.assertIs(type(row), tuple)
            done, kind, price = row
            self.assertIs(type(done), tuple)
            self.assertIs(type(price), int)
            self.assertNotIn((done, kind), states)
            states[(done, kind)] = price
        return states

    def is_fewest(self, rows, loaded):
        """All that is told, against all mixings of the rows."""
        kept = copy.deepcopy(rows)
        told = fewest(rows, loaded)
        self.assertEqual(rows, kept)
        wanted = states_by_all(rows, loaded)
        self.assertEqual(self.is_right(rows, loaded, told), wanted)
        self.assertEqual(told[1], wanted[((0,) * len(rows), loaded)])

    def test_known_rows(self):
        for rows, from_none, from_a in KNOWN:
            for loaded, many in (("", from_none), ("a", from_a), ("z", from_none)):
                told = fewest(copy.deepcopy(rows), loaded)
                self.is_right(rows, loaded, told)
                self.assertEqual(told[1], many, (rows, loaded))

    def test_no_rows(self):
        for loaded in LOADED:
            self.assertEqual(fewest([], loaded), ([], 0, [((), loaded, 0)]))

    def test_rows_without_jobs(self):
        for loaded in LOADED:
            self.assertEqual(fewest([[]], loaded), ([], 0, [((0,), loaded, 0)]))
            self.assertEqual(fewest([[], [], []], loaded), ([], 0, [((0, 0, 0), loaded, 0)]))

    def test_one_row(self):
        order, many, prices = fewest([["a", "b", "a"]], "a")
        self.assertEqual((order, many), ([0, 0, 0], 2))
        self.assertEqual(sorted(prices), [((0,), "a", 2), ((1,), "a", 2), ((2,), "b", 1), ((3,), "a", 0)])
        order, many, prices = fewest([[], ["b"]], "a")
        self.assertEqual((order, many), ([1], 1))
        self.assertEqual(sorted(prices), [((0, 0), "a", 1), ((0, 1), "b", 0)])

    def test_prices_of_two_rows(self):
        order, many, prices = fewest([["a"], ["b"]], "b")
        self.assertEqual((order, many), ([1, 0], 1))
        wanted = [((0, 0), "b", 1), ((0, 1), "b", 1), ((1, 0), "a", 1), ((1, 1), "a", 0), ((1, 1), "b", 0)]
        self.assertEqual(sorted(prices), wanted)

    def test_one_state_of_the_same_kind_is_told_once(self):
        prices = fewest([["a"], ["a"]], "a")[2]
        self.assertEqual(sorted(prices), [((0, 0), "a", 0), ((0, 1), "a", 0), ((1, 0), "a", 0), ((1, 1), "a", 0)])

    def test_a_loaded_kind_that_no_row_has_is_only_in_the_first_state(self):
        for loaded in ("", "z"):
            prices = fewest([["a", "b"], ["b"]], loaded)[2]
            self.assertEqual([row for row in prices if row[1] == loaded], [((0, 0), loaded, 2)])

    def test_all_small_rows(self):
        kinds = [list(row) for many in range(3) for row in itertools.product("ab", repeat=many)]
        for rows in itertools.product(kinds, repeat=2):
            for loaded in ("", "a", "z"):
                self.is_fewest(list(rows), loaded)

    def test_rows_by_all_mixings(self):
        chance = random.Random(290)
        for many in range(150):
            rows = [[] for row in range(chance.randrange(1, 5))]
            for job in range(chance.randrange(7)):
                chance.choice(rows).append(chance.choice("aabbcd"))
            self.is_fewest(rows, chance.choice(LOADED))

    def test_eight_jobs_by_all_mixings(self):
        for rows, loaded in (
            ([["a", "b", "a", "c"], ["b", "a", "c", "b"]], "b"),
            ([["a", "b", "c", "a", "b", "c"], ["c", "a"]], ""),
            ([["a"] * 5, ["b", "a", "b"]], "z"),
            ([["a", "b", "a"], ["c", "b", "a"], ["b", "c"]], "c"),
            ([["a", "b", "c", "d", "a", "b", "c", "d"]], "d"),
        ):
            self.is_fewest(rows, loaded)

    def test_eight_rows_of_one_job(self):
        rows = [[kind] for kind in "abcdefgh"]
        states = self.is_right(rows, "a", fewest(rows, "a"))
        # Of each set of rows that are done, the last one done gives the kind.
        self.assertEqual(len(states), 1 + 8 * 2 ** 7)
        for (done, kind), price in states.items():
            left = [row[0] for row, many in zip(rows, done) if not many]
            self.assertEqual(price, len(left) - (kind in left))

    def test_many_rows_with_few_jobs(self):
        rows = [[] for row in range(300)]
        for place in (0, 7, 150, 298, 299):
            rows[place] = ["a"] if place % 2 else ["b"]
        rows[299].extend(["b", "a", "b"])
        told = fewest(rows, "a")
        states = self.is_right(rows, "a", told)
        self.assertEqual(told[1], 3)
        self.assertTrue(all(len(done) == 300 for done, kind in states))

    def test_what_is_told_is_the_askers_own(self):
        rows = [["a", "b"], ["b"]]
        first = fewest(rows, "")
        kept = copy.deepcopy(first)
        rows[0].append("c")
        rows.append(["c"])
        self.assertEqual(first, kept)
        first[0].clear()
        first[2].clear()
        self.assertEqual(fewest([["a", "b"], ["b"]], ""), kept)

    def test_more_than_eight_jobs(self):
        for rows in (
            [["a"] * 9],
            [["a"] * 8, ["a"]],
            [["a"], ["a"] * 8],
            [["a"]] * 9,
            [[], ["a", "b", "c"], [], ["a", "b", "c"], ["a", "b", "c"]],
            [["a"] * 300],
            [["a", "b"]] * 300,
        ):
            kept = copy.deepcopy(rows)
            for loaded in LOADED:
                self.refused(TooMuch, {"name": "jobs"}, lambda: fewest(rows, loaded))
            self.assertEqual(rows, kept)


if __name__ == "__main__":
    unittest.main()
