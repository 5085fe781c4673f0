"""How levels grow and are lifted, and which asker goes first (points 22 and 23)."""

import itertools
import unittest

from helping import GREAT

from spoolhall.levels import first_of, grown, lifted

# What a cost of one adds to the level, for each share.
STEPS = {1: 2520, 2: 1260, 3: 840, 4: 630, 5: 504, 6: 420, 7: 360, 8: 315, 9: 280, 10: 252}


class Grown(unittest.TestCase):
    def test_each_share(self):
        for share, step in STEPS.items():
            for level in (0, 1, 7, 2520, GREAT):
                for cost in (1, 2, 7, 98901, GREAT):
                    with self.subTest(share=share, level=level, cost=cost):
                        told = grown(level, cost, share)
                        self.assertEqual(told, level + cost * step)
                        self.assertIs(type(told), int)

    def test_a_great_share_grows_slower(self):
        grows = [grown(0, 5, share) for share in range(1, 11)]
        self.assertEqual(grows, sorted(grows, reverse=True))
        self.assertEqual(len(set(grows)), 10)


class Lifted(unittest.TestCase):
    def test_below_at_and_above_the_mark(self):
        self.assertEqual(lifted(4, 5), 5)
        self.assertEqual(lifted(5, 5), 5)
        self.assertEqual(lifted(6, 5), 6)
        self.assertEqual(lifted(0, 0), 0)
        self.assertEqual(lifted(0, GREAT), GREAT)
        self.assertEqual(lifted(GREAT, 0), GREAT)


class FirstOf(unittest.TestCase):
    def check(self, rows, place):
        kept = list(rows)
        with self.subTest(rows=rows):
            told = first_of(rows)
            self.assertEqual(told, place)
            self.assertIs(type(told), int)
            self.assertEqual(rows, kept)

    def test_one_alone(self):
        self.check([(0, 0, "anna")], 0)
        self.check([(9, GREAT, "anna")], 0)

    def test_the_greatest_rank(self):
        self.check([(0, 0, "anna"), (1, 99, "zoe")], 1)
        self.check([(9, 99, "zoe"), (8, 0, "anna")], 0)
        self.check([(2, 0, "anna"), (9, 50, "carl"), (3, 0, "bert")], 1)

    def test_then_the_least_level(self):
        self.check([(5, 2, "anna"), (5, 1, "zoe")], 1)
        self.check([(5, 1, "zoe"), (5, 2, "anna")], 0)
        self.check([(5, 10, "anna"), (5, 9, "bert"), (4, 0, "carl")], 1)
        self.check([(5, GREAT, "anna"), (5, GREAT - 1, "bert")], 1)

    def test_then_the_name(self):
        self.check([(5, 2, "bert"), (5, 2, "anna")], 1)
        self.check([(5, 2, "anna"), (5, 2, "bert")], 0)
        self.check([(5, 2, "a2"), (5, 2, "a10")], 1)
        self.check([(5, 2, "ab"), (5, 2, "a")], 1)
        self.check([(5, 2, "b"), (5, 2, "ab"), (5, 2, "aa")], 2)

    def test_in_whatever_order_they_stand(self):
        rows = [(3, 7, "anna"), (3, 5, "carl"), (3, 5, "bert"), (2, 0, "dora"), (3, 6, "a")]
        for mixed in itertools.permutations(rows):
            self.check(list(mixed), mixed.index((3, 5, "bert")))


if __name__ == "__main__":
    unittest.main()
