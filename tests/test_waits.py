"""Rings, orders, and who waits for ever (points 27 and 28)."""

import copy
import itertools
import random
import unittest

from helping import HallTest

from spoolhall.errors import GoesRound
from spoolhall.waits import doomed, order, ring

ROW = ["n" + str(number) for number in range(60)]

# Dicts without a ring.
CLEAR = (
    {},
    {"a": []},
    {"a": ["z"]},
    {"a": ["z", "y"], "b": ["z"]},
    {"a": ["b"], "b": []},
    {"b": [], "a": ["b"]},
    {"a": ["b", "c"], "b": ["c"], "c": ["z"]},
    {"d": ["c", "b", "z"], "c": ["a"], "b": ["a"], "a": []},
    {name: ROW[place + 1:place + 2] for place, name in enumerate(ROW)},
    {name: ROW[place + 1:place + 2] for place, name in reversed(list(enumerate(ROW)))},
    {name: ROW[place + 1:] for place, name in enumerate(ROW)},
)

# Dicts with one ring or several.
ROUND = (
    {"a": ["a"]},
    {"a": ["z", "a"]},
    {"a": [], "b": ["b"]},
    {"a": ["b"], "b": ["a"]},
    {"a": ["b"], "b": ["b"]},
    {"c": ["a"], "a": ["z", "b"], "b": ["y", "a"]},
    {"x": ["a"], "a": ["b"], "b": ["c"], "c": ["d"], "d": ["b"]},
    {"a": ["b"], "b": ["c"], "c": ["a"], "d": ["e"], "e": ["d"], "f": ["f"], "g": []},
    {"a": ["g", "b"], "b": ["g", "a"], "g": []},
    {name: [ROW[(place + 1) % 60]] for place, name in enumerate(ROW)},
    {name: [ROW[(place + 59) % 60]] for place, name in enumerate(ROW)},
    {name: [ROW[min(place + 1, 59)]] for place, name in enumerate(ROW)},
    {name: ROW for name in ROW},
)


def some_waits(chance):
    """A dict of a few names, with names that are none of its own."""
    names = ["a", "b", "c", "d", "e", "f", "g", "h"][:chance.randrange(9)]
    chance.shuffle(names)
    others = names + ["y", "z", "g1", "g2"]
    return {name: chance.sample(others, min(len(others), chance.choice([0, 0, 1, 1, 2]))) for name in names}


def closure(waits):
    """For each own name all that can be come to from it."""
    reach = {name: set(others) for name, others in waits.items()}
    for middle in waits:
        for name in waits:
            if middle in reach[name]:
                reach[name] |= reach[middle]
    return reach


def in_rings(waits):
    """The names that lie in a ring: those that can be come to from themselves."""
    reach = closure(waits)
    return {name for name in waits if name in reach[name]}


def wanted_doomed(waits, gone):
    """The names that wait for ever, by the document's words."""
    rings = in_rings(waits)
    reach = closure(waits)
    return [name for name in waits if name in rings or reach[name] & (rings | set(gone))]


class WaitsTest(HallTest):
    def is_ring(self, waits, told):
        self.assertIs(type(told), list)
        self.assertGreater(len(told), 0)
        self.assertEqual(len(set(told)), len(told))
        for place, name in enumerate(told):
            self.assertIn(name, waits)
            self.assertIn(told[(place + 1) % len(told)], waits[name])

    def is_order(self, waits, told):
        self.assertIs(type(told), list)
        self.assertEqual(sorted(told), sorted(waits))
        for place, name in enumerate(told):
            for other in waits[name]:
                if other in waits:
                    self.assertIn(other, told[:place])

    def is_chain(self, waits, gone, name, told):
        self.assertIs(type(told), list)
        self.assertGreaterEqual(len(told), 2)
        self.assertEqual(told[0], name)
        for first, second in zip(told, told[1:]):
            self.assertIn(first, waits)
            self.assertIn(second, waits[first])
        ahead = told[:-1]
        self.assertEqual(len(set(ahead)), len(ahead))
        self.assertTrue(told[-1] in gone or told[-1] in ahead)


class RingsAndOrders(WaitsTest):
    def has_a_ring(self, waits):
        kept = copy.deepcopy(waits)
        self.is_ring(waits, ring(waits))
        with self.assertRaises(GoesRound) as caught:
            order(waits)
        self.is_ring(waits, caught.exception.ring)
        self.assertEqual((waits, list(waits)), (kept, list(kept)))

    def has_an_order(self, waits):
        kept = copy.deepcopy(waits)
        self.assertIsNone(ring(waits))
        self.is_order(waits, order(waits))
        self.assertEqual((waits, list(waits)), (kept, list(kept)))

    def test_without_a_ring(self):
        for waits in CLEAR:
            with self.subTest(waits=waits):
                self.has_an_order(waits)

    def test_with_a_ring(self):
        for waits in ROUND:
            with self.subTest(waits=waits):
                self.has_a_ring(waits)

    def test_no_names(self):
        self.assertIsNone(ring({}))
        self.assertEqual(order({}), [])

    def test_one_name_that_waits_for_itself(self):
        self.assertEqual(ring({"a": ["a"]}), ["a"])
        self.refused(GoesRound, {"ring": ["a"]}, lambda: order({"a": ["a"]}))
        self.assertEqual(ring({"a": ["b"], "b": ["z", "b"]}), ["b"])

    def test_a_ring_of_all_sixty(self):
        waits = {name: [ROW[(place + 1) % 60]] for place, name in enumerate(ROW)}
        self.assertEqual(sorted(ring(waits)), sorted(ROW))

    def test_sixty_in_a_row(self):
        waits = {name: ROW[place + 1:place + 2] for place, name in enumerate(ROW)}
        self.assertEqual(order(waits), list(reversed(ROW)))
        waits = {name: ROW[place - 1:place] for place, name in enumerate(ROW)}
        self.assertEqual(order(waits), ROW)

    def test_names_that_are_none_of_its_own_make_no_ring(self):
        self.assertIsNone(ring({"a": ["z"], "b": ["z", "a"]}))
        self.assertEqual(order({"b": ["z", "a"], "a": ["z"]}), ["a", "b"])

    def test_every_small_dict(self):
        for many in (1, 2, 3):
            names = ["a", "b", "c"][:many]
            others = names + ["z"]
            lists = [list(some) for size in range(many + 2) for some in itertools.combinations(others, size)]
            for row in itertools.product(lists, repeat=many):
                waits = {name: list(some) for name, some in zip(names, row)}
                if in_rings(waits):
                    self.has_a_ring(waits)
                else:
                    self.has_an_order(waits)

    def test_many_dicts(self):
        for seed in range(600):
            waits = some_waits(random.Random(seed))
            with self.subTest(seed=seed, waits=waits):
                if in_rings(waits):
                    self.has_a_ring(waits)
                else:
                    self.has_an_order(waits)

    def test_what_is_told_is_the_askers_own(self):
        waits = {"a": ["b"], "b": ["a"]}
        ring(waits).clear()
        self.is_ring(waits, ring(waits))
        told = ring(waits)
        kept = list(told)
        waits["a"].clear()
        waits["c"] = []
        self.assertEqual(told, kept)
        order(waits).clear()
        self.is_order(waits, order(waits))
        self.assertEqual(waits, {"a": [], "b": ["a"], "c": []})


class Doomed(WaitsTest):
    def check(self, waits, gone, names):
        kept = (copy.deepcopy(waits), list(gone))
        with self.subTest(waits=waits, gone=gone):
            told = doomed(waits, gone)
            self.assertIs(type(told), dict)
            self.assertEqual(list(told), names)
            for name, chain in told.items():
                self.is_chain(waits, gone, name, chain)
            self.assertEqual((waits, gone), kept)
            self.assertEqual(list(waits), list(kept[0]))

    def test_nobody(self):
        self.check({}, [], [])
        self.check({}, ["z"], [])
        self.check({"a": []}, ["z"], [])
        self.check({"a": ["b"], "b": []}, ["z"], [])

    def test_for_one_that_is_gone(self):
        self.check({"a": ["z"]}, ["z"], ["a"])
        self.check({"a": ["b", "z"], "b": []}, ["y", "z"], ["a"])
        self.assertEqual(doomed({"a": ["z"]}, ["z"]), {"a": ["a", "z"]})
        self.assertEqual(doomed({"a": ["b"], "b": ["z"]}, ["z"]), {"a": ["a", "b", "z"], "b": ["b", "z"]})

    def test_for_one_that_waits_for_ever(self):
        self.check({"a": ["b"], "b": ["c"], "c": ["z"], "d": ["a"], "e": []}, ["z"], ["a", "b", "c", "d"])
        self.check({"e": ["a"], "a": ["b"], "b": ["b"]}, [], ["e", "a", "b"])

    def test_in_a_ring(self):
        self.check({"a": ["a"]}, [], ["a"])
        self.assertEqual(doomed({"a": ["a"]}, []), {"a": ["a", "a"]})
        self.check({"a": ["b"], "b": ["a"]}, [], ["a", "b"])
        self.assertEqual(doomed({"a": ["b"], "b": ["a"]}, []), {"a": ["a", "b", "a"], "b": ["b", "a", "b"]})
        for waits in ROUND:
            self.check(waits, [], wanted_doomed(waits, []))

    def test_for_one_that_is_neither_gone_nor_its_own(self):
        self.check({"a": ["z"]}, [], [])
        self.check({"a": ["z"], "b": ["y"], "c": ["b"]}, ["y"], ["b", "c"])
        self.check({"a": ["z", "b"], "b": ["y", "x"]}, ["w"], [])

    def test_in_the_order_of_the_dict(self):
        names = ["a", "b", "c", "d"]
        for mixed in itertools.permutations(names):
            waits = {name: {"a": ["b"], "b": ["z"], "c": [], "d": ["d"]}[name] for name in mixed}
            self.check(waits, ["z"], [name for name in mixed if name != "c"])

    def test_sixty_in_a_row(self):
        waits = {name: ROW[place + 1:place + 2] for place, name in enumerate(ROW)}
        self.check(waits, ["z"], [])
        waits[ROW[-1]] = ["z"]
        self.check(waits, ["z"], ROW)
        self.assertEqual(doomed(waits, ["z"])[ROW[0]], ROW + ["z"])
        self.check(waits, [], [])
        waits[ROW[-1]] = [ROW[30]]
        self.check(waits, ["z"], ROW)
        back = {name: waits[name] for name in reversed(ROW)}
        self.check(back, [], list(reversed(ROW)))

    def test_every_small_dict(self):
        for many in (1, 2):
            names = ["a", "b"][:many]
            others = names + ["y", "z"]
            lists = [list(some) for size in range(4) for some in itertools.permutations(others, size)]
            for row in itertools.product(lists, repeat=many):
                waits = {name: list(some) for name, some in zip(names, row)}
                for gone in ([], ["z"], ["z", "y"]):
                    self.check(waits, gone, wanted_doomed(waits, gone))

    def test_many_dicts(self):
        for seed in range(1000):
            chance = random.Random(seed)
            waits = some_waits(chance)
            gone = [name for name in ("g1", "g2", "g3") if chance.randrange(2)]
            self.check(waits, gone, wanted_doomed(waits, gone))

    def test_long_lists(self):
        others = ["o" + str(number) for number in range(240)]
        gone = ["g" + str(number) for number in range(300)]
        waits = {name: others + ROW[place + 1:] for place, name in enumerate(ROW)}
        self.check(waits, gone, [])
        waits[ROW[-1]] = others + ["g299"]
        self.check(waits, gone, ROW)

    def test_what_is_told_is_the_askers_own(self):
        waits = {"a": ["b"], "b": ["a"], "c": ["z"]}
        gone = ["z"]
        first = doomed(waits, gone)
        first["c"].clear()
        first.pop("a")
        self.check(waits, gone, ["a", "b", "c"])
        told = doomed(waits, gone)
        kept = copy.deepcopy(told)
        told["a"].append("more")
        self.assertEqual((told["b"], told["c"]), (kept["b"], kept["c"]))
        told = doomed(waits, gone)
        waits["a"].append("c")
        waits["d"] = ["d"]
        gone.clear()
        self.assertEqual(told, kept)


if __name__ == "__main__":
    unittest.main()
