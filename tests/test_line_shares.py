"""What the shares come to: askers of like rank are passed over within the told bounds (point 24)."""

import random
import unittest

from helping import ShareTest

from spoolhall.line import Line


class Rows:
    """A line whose takes are told all that waits, with a record of each take."""

    def __init__(self, shares, rank=4):
        self.shares = shares
        self.line = Line()
        for asker, share in shares.items():
            self.line.add_asker(asker, rank, share)
        self.owners = {}
        self.costs = {}
        self.takes = []

    def lay(self, asker, cost):
        name = "j" + str(len(self.owners))
        self.owners[name] = asker
        self.costs[name] = cost
        self.line.lay(name, asker, cost)

    def asking(self):
        """The askers that have jobs waiting."""
        return {self.owners[name] for name in self.line.waiting()}

    def take(self):
        ahead = self.asking()
        name = self.line.take(self.line.waiting())
        if name is not None:
            self.takes.append((self.owners[name], self.costs[name], ahead, self.asking()))

    def pull(self, chance):
        waiting = self.line.waiting()
        if waiting:
            self.line.pull(chance.choice(waiting))


class Shares(ShareTest):
    def test_two_askers_always_waiting(self):
        for v, w in ((1, 1), (1, 2), (1, 10), (3, 7), (9, 10), (10, 1), (6, 4)):
            for costs in ((1, 1), (1, 30), (30, 1), (7, 5)):
                rows = Rows({"anna": v, "bert": w})
                for number in range(4):
                    rows.lay("anna", costs[0])
                    rows.lay("bert", costs[1])
                for number in range(120):
                    rows.take()
                    rows.lay(rows.takes[-1][0], costs[0] if rows.takes[-1][0] == "anna" else costs[1])
                with self.subTest(shares=(v, w), costs=costs):
                    self.look(rows)
                    self.assertEqual({asker for asker, cost, ahead, behind in rows.takes}, {"anna", "bert"})

    def test_long_rows_with_askers_that_come_and_go(self):
        for seed in range(60):
            chance = random.Random(seed)
            shares = {asker: chance.randrange(1, 11) for asker in ("anna", "bert", "carl", "dora")[:2 + seed % 3]}
            most = {asker: chance.choice([1, 3, 20]) for asker in shares}
            rows = Rows(shares)
            busy = dict.fromkeys(shares, True)
            for number in range(260):
                for asker in shares:
                    if chance.randrange(25) == 0:
                        busy[asker] = not busy[asker]
                    if busy[asker] and chance.randrange(2):
                        rows.lay(asker, chance.randrange(1, most[asker] + 1))
                rows.take()
                if chance.randrange(30) == 0:
                    rows.pull(chance)
            with self.subTest(seed=seed):
                self.look(rows)

    def test_one_that_comes_late_does_not_hold_up_the_others(self):
        for v, w in ((1, 1), (1, 10), (10, 1), (2, 3)):
            rows = Rows({"anna": v, "bert": w})
            for number in range(100):
                rows.lay("anna", 5)
            for number in range(40):
                rows.take()
            for number in range(60):
                rows.lay("bert", 5)
            for number in range(60):
                rows.take()
            with self.subTest(shares=(v, w)):
                self.look(rows)
                self.assertEqual({asker for asker, cost, ahead, behind in rows.takes[40:]}, {"anna", "bert"})

    def test_shares_of_long_rows_come_near_to_what_they_are(self):
        rows = Rows({"anna": 1, "bert": 3})
        for number in range(400):
            rows.lay("anna", 2)
            rows.lay("bert", 2)
        for number in range(400):
            rows.take()
        taken = [asker for asker, cost, ahead, behind in rows.takes]
        self.assertEqual((taken.count("anna"), taken.count("bert")), (100, 300))


if __name__ == "__main__":
    unittest.main()
