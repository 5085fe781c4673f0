"""The line: laying in, taking, pulling, what is noted, and what is refused (points 22, 23 and 25)."""

import itertools
import random
import unittest

from helping import GREAT, HallTest

from spoolhall.errors import HallError, Twice, Unknown
from spoolhall.line import Line

# Askers with their ranks and shares.
ASKERS = {"anna": (5, 1), "bert": (5, 2), "carl": (5, 10), "dora": (2, 3), "emil": (9, 4)}
LEVEL_STEPS = {1: 2520, 2: 1260, 3: 840, 4: 630, 5: 504, 6: 420, 7: 360, 8: 315, 9: 280, 10: 252}


def line_of(*rows):
    """A line with all askers and these jobs, told as name, asker and cost."""
    line = Line()
    for name, (rank, share) in ASKERS.items():
        line.add_asker(name, rank, share)
    for name, asker, cost in rows:
        line.lay(name, asker, cost)
    return line


def face(line, jobs=()):
    """All that can be asked of a line with these jobs, which were laid in."""
    return (
        line.waiting(),
        {asker: line.level(asker) for asker in ASKERS},
        [line.mark(rank) for rank in range(10)],
        {job: line.ahead(job) for job in jobs},
        line.forecast(line.waiting()),
    )


class LineTest(HallTest):
    def stands(self, line, levels, marks):
        """All levels that are not 0, and all marks that are not."""
        told = {asker: line.level(asker) for asker in ASKERS if line.level(asker) != 0}
        self.assertEqual(told, levels)
        self.assertEqual({rank: line.mark(rank) for rank in range(10) if line.mark(rank) != 0}, marks)

    def refused_and_unchanged(self, line, jobs, refusal, values, deed):
        kept = face(line, jobs)
        self.refused(refusal, values, deed)
        self.assertEqual(face(line, jobs), kept)


class Askers(LineTest):
    def test_nothing_at_first(self):
        line = Line()
        self.assertEqual(line.waiting(), [])
        self.assertEqual([line.mark(rank) for rank in range(10)], [0] * 10)
        self.assertIsNone(line.take([]))
        self.assertEqual(line.forecast([]), [])

    def test_a_level_of_0_at_first(self):
        line = Line()
        self.assertIsNone(line.add_asker("anna", 0, 1))
        self.assertIsNone(line.add_asker("bert", 9, 10))
        self.assertEqual([line.level("anna"), line.level("bert")], [0, 0])
        self.assertEqual(line.waiting(), [])

    def test_a_name_comes_once(self):
        line = line_of(("a", "anna", 3))
        for rank, share in ((5, 1), (7, 7)):
            self.refused_and_unchanged(
                line, ["a"], Twice, {"name": "anna"}, lambda: line.add_asker("anna", rank, share)
            )
        line.take(["a"])
        self.refused_and_unchanged(line, ["a"], Twice, {"name": "anna"}, lambda: line.add_asker("anna", 9, 9))
        self.assertEqual(line.level("anna"), 3 * 2520)

    def test_an_asker_that_is_none(self):
        line = line_of(("a", "anna", 3))
        for name in ("zoe", "a", ""):
            self.refused_and_unchanged(line, ["a"], Unknown, {"name": name}, lambda: line.level(name))

    def test_names_of_jobs_and_of_askers_are_two_sorts(self):
        line = line_of(("anna", "bert", 1), ("bert", "anna", 1))
        self.assertEqual(line.waiting(), ["anna", "bert"])
        self.assertEqual(line.take(["anna", "bert"]), "bert")
        self.assertEqual(line.level("anna"), 2520)
        line.add_asker("a", 5, 5)
        line.lay("a", "a", 1)
        self.assertEqual(line.waiting(), ["anna", "a"])


class LayingIn(LineTest):
    def test_jobs_wait_in_their_order(self):
        line = Line()
        line.add_asker("anna", 0, 1)
        line.add_asker("bert", 9, 1)
        self.assertIsNone(line.lay("z", "anna", 1))
        line.lay("b", "bert", 5)
        line.lay("a", "anna", 2)
        self.assertEqual(line.waiting(), ["z", "b", "a"])
        self.assertEqual([line.ahead(name) for name in ("z", "b", "a")], [[], [], []])
        self.assertEqual([line.level("anna"), line.level("bert")], [0, 0])

    def test_an_unknown_asker(self):
        line = line_of(("a", "anna", 3))
        self.refused_and_unchanged(line, ["a"], Unknown, {"name": "zoe"}, lambda: line.lay("b", "zoe", 3))
        self.refused(Unknown, {"name": "b"}, lambda: line.ahead("b"))
        self.refused_and_unchanged(line, ["a"], Unknown, {"name": "a"}, lambda: line.lay("b", "a", 3))
        line.lay("b", "bert", 3)
        self.assertEqual(line.waiting(), ["a", "b"])

    def test_a_job_twice(self):
        line = line_of(("a", "anna", 3), ("b", "bert", 4), ("c", "anna", 2))
        for asker in ASKERS:
            self.refused_and_unchanged(line, "abc", Twice, {"name": "a"}, lambda: line.lay("a", asker, 9))
        self.assertEqual(line.take(["a"]), "a")
        line.pull("b")
        for name in "abc":
            for asker in ASKERS:
                self.refused_and_unchanged(line, "abc", Twice, {"name": name}, lambda: line.lay(name, asker, 9))

    def test_a_refused_laying_in_lifts_nobody(self):
        line = line_of(("a", "anna", 3), ("b", "anna", 3))
        line.take(["a"])
        line.take(["b"])
        self.stands(line, {"anna": 6 * 2520}, {5: 3 * 2520})
        self.refused(Twice, {"name": "a"}, lambda: line.lay("a", "bert", 1))
        self.stands(line, {"anna": 6 * 2520}, {5: 3 * 2520})
        line.lay("c", "bert", 1)
        self.stands(line, {"anna": 6 * 2520, "bert": 3 * 2520}, {5: 3 * 2520})

    def test_unknown_goes_ahead_of_twice(self):
        line = line_of(("a", "anna", 3))
        self.refused_and_unchanged(line, ["a"], Unknown, {"name": "zoe"}, lambda: line.lay("a", "zoe", 3))

    def test_an_asker_that_had_none_waiting_is_lifted(self):
        line = line_of(("a", "anna", 1), ("b", "anna", 1), ("c", "anna", 1))
        for name in "abc":
            line.take([name])
        self.stands(line, {"anna": 7560}, {5: 5040})
        line.lay("d", "bert", 1)
        self.stands(line, {"anna": 7560, "bert": 5040}, {5: 5040})
        line.lay("e", "anna", 1)
        self.stands(line, {"anna": 7560, "bert": 5040}, {5: 5040})

    def test_one_that_had_some_waiting_is_not(self):
        line = line_of(("w", "bert", 1), ("a", "anna", 1), ("b", "anna", 1), ("c", "anna", 1))
        for name in "abc":
            line.take([name])
        line.lay("x", "bert", 1)
        self.stands(line, {"anna": 7560}, {5: 5040})
        line.pull("w")
        line.lay("y", "bert", 1)
        self.stands(line, {"anna": 7560}, {5: 5040})
        line.pull("x")
        line.pull("y")
        self.stands(line, {"anna": 7560}, {5: 5040})
        line.lay("z", "bert", 1)
        self.stands(line, {"anna": 7560, "bert": 5040}, {5: 5040})

    def test_each_rank_has_a_mark_of_its_own(self):
        line = line_of(("a", "anna", 1), ("b", "anna", 1), ("d", "dora", 1), ("e", "dora", 1), ("f", "emil", 7))
        for name in "abdef":
            line.take([name])
        self.stands(line, {"anna": 5040, "dora": 1680, "emil": 4410}, {5: 2520, 2: 840})
        line.lay("c", "carl", 1)
        line.lay("g", "dora", 1)
        self.stands(line, {"anna": 5040, "carl": 2520, "dora": 1680, "emil": 4410}, {5: 2520, 2: 840})


class Taking(LineTest):
    def test_a_row_of_takes_written_out(self):
        line = line_of(("a1", "anna", 2), ("b1", "bert", 2), ("a2", "anna", 1), ("c1", "carl", 5), ("b2", "bert", 9),
                       ("d1", "dora", 4), ("e1", "emil", 6), ("c2", "carl", 1), ("b3", "bert", 1))
        rows = []
        while line.waiting():
            rows.append((line.take(line.waiting()), line.level("anna"), line.level("bert"), line.level("carl"),
                         line.level("dora"), line.level("emil"), line.mark(5), line.mark(2), line.mark(9)))
        self.assertEqual(rows, [
            ("e1", 0, 0, 0, 0, 3780, 0, 0, 0),
            ("a1", 5040, 0, 0, 0, 3780, 0, 0, 0),
            ("b1", 5040, 2520, 0, 0, 3780, 0, 0, 0),
            ("c1", 5040, 2520, 1260, 0, 3780, 0, 0, 0),
            ("c2", 5040, 2520, 1512, 0, 3780, 1260, 0, 0),
            ("b2", 5040, 13860, 1512, 0, 3780, 2520, 0, 0),
            ("a2", 7560, 13860, 1512, 0, 3780, 5040, 0, 0),
            ("b3", 7560, 15120, 1512, 0, 3780, 13860, 0, 0),
            ("d1", 7560, 15120, 1512, 3360, 3780, 13860, 0, 0),
        ])

    def test_of_no_able_ones_none_is_taken_and_nothing_noted(self):
        line = line_of(("a", "anna", 2), ("b", "bert", 2))
        kept = face(line, "ab")
        self.assertIsNone(line.take([]))
        self.assertEqual(face(line, "ab"), kept)
        self.assertEqual(line.ahead("a"), [])

    def test_of_each_asker_the_one_that_was_laid_in_first(self):
        rows = [("z", "anna", 1), ("y", "bert", 1), ("x", "anna", 1), ("w", "bert", 1), ("v", "anna", 1)]
        for able in itertools.permutations("zyxwv"):
            self.assertEqual(line_of(*rows).take(list(able)), "z")
        for able in itertools.permutations("yxwv"):
            self.assertEqual(line_of(*rows).take(list(able)), "x")
        for able in itertools.permutations("wyv"):
            self.assertEqual(line_of(*rows).take(list(able)), "v")
        for able in itertools.permutations("wy"):
            self.assertEqual(line_of(*rows).take(list(able)), "y")

    def test_rank_then_level_then_name(self):
        line = line_of(("d", "dora", 1), ("c", "carl", 1), ("b", "bert", 1), ("a", "anna", 1), ("e", "emil", 1),
                       ("a2", "anna", 1))
        self.assertEqual(line.take(["d", "c", "b", "a"]), "a")
        self.assertEqual(line.take(["d", "a2", "c", "b"]), "b")
        self.assertEqual(line.take(["d", "a2", "e", "c"]), "e")
        self.assertEqual(line.take(["d", "a2", "c"]), "c")
        self.assertEqual(line.take(["d", "a2"]), "a2")
        self.assertEqual(line.take(["d"]), "d")

    def test_the_mark_never_sinks(self):
        line = line_of(("a1", "anna", 5), ("b1", "bert", 1), ("a2", "anna", 1), ("b2", "bert", 1))
        for name, mark in (("a1", 0), ("a2", 12600), ("b1", 12600), ("b2", 12600)):
            self.assertEqual(line.take([name]), name)
            self.assertEqual(line.mark(5), mark)
        self.stands(line, {"anna": 15120, "bert": 2520}, {5: 12600})

    def test_a_taken_job_waits_no_more(self):
        line = line_of(("a", "anna", 2), ("b", "bert", 2), ("c", "anna", 2))
        line.take(["b"])
        self.assertEqual(line.waiting(), ["a", "c"])
        line.take(["a", "c"])
        self.assertEqual(line.waiting(), ["c"])

    def test_great_costs(self):
        line = line_of(("a", "anna", GREAT), ("b", "bert", 1))
        line.take(["a", "b"])
        self.assertEqual(line.level("anna"), GREAT * 2520)
        self.assertEqual(line.ahead("b"), [("a", GREAT, "share")])

    def test_one_that_does_not_wait(self):
        line = line_of(("a", "anna", 2), ("b", "bert", 2), ("c", "anna", 2), ("d", "dora", 2))
        line.take(["c"])
        line.pull("d")
        for able, name in (
            (["z"], "z"), (["a", "z"], "z"), (["z", "a"], "z"), (["a", "z", "y"], "z"), (["a", "y", "z"], "y"),
            (["c"], "c"), (["a", "b", "c"], "c"), (["d", "c", "a"], "d"), (["c", "d"], "c"), (["anna"], "anna"),
        ):
            for deed in (line.take, line.forecast):
                kept = list(able)
                with self.subTest(able=able, deed=deed):
                    self.refused_and_unchanged(line, "abcd", Unknown, {"name": name}, lambda: deed(able))
                    self.assertEqual(able, kept)


class Pulling(LineTest):
    def test_it_waits_no_more_and_nothing_else_changes(self):
        line = line_of(("a", "anna", 2), ("b", "bert", 2), ("c", "anna", 2), ("d", "dora", 2))
        line.take(["b", "a"])
        kept = face(line, "abcd")
        self.assertIsNone(line.pull("c"))
        self.assertEqual(line.waiting(), ["b", "d"])
        self.assertEqual(face(line, "abcd")[1:4], kept[1:4])

    def test_one_that_does_not_wait(self):
        line = line_of(("a", "anna", 2), ("b", "bert", 2), ("c", "anna", 2))
        line.take(["a"])
        line.pull("b")
        for name in ("a", "b", "z", "anna", ""):
            self.refused_and_unchanged(line, "abc", Unknown, {"name": name}, lambda: line.pull(name))
        self.assertEqual(line.waiting(), ["c"])

    def test_the_next_of_the_asker_goes(self):
        line = line_of(("a", "anna", 2), ("b", "anna", 2))
        line.pull("a")
        self.assertEqual(line.take(["b"]), "b")
        self.assertEqual(line.ahead("a"), [])


class Noted(LineTest):
    def test_each_reason(self):
        line = line_of(("a", "anna", 7), ("b", "bert", 2), ("c", "anna", 3), ("d", "dora", 4), ("e", "emil", 5))
        self.assertEqual(line.take(["a", "b", "c", "d"]), "a")
        self.assertEqual(line.ahead("a"), [])
        self.assertEqual(line.ahead("b"), [("a", 7, "share")])
        self.assertEqual(line.ahead("c"), [("a", 7, "own")])
        self.assertEqual(line.ahead("d"), [("a", 7, "rank")])
        self.assertEqual(line.ahead("e"), [("a", 7, "unable")])

    def test_unable_goes_ahead_of_all_reasons(self):
        line = line_of(("a", "anna", 7), ("b", "bert", 2), ("c", "anna", 3), ("d", "dora", 4), ("e", "emil", 5))
        line.take(["a"])
        for name in "bcde":
            self.assertEqual(line.ahead(name), [("a", 7, "unable")])

    def test_an_unable_one_of_greater_rank_and_of_the_same_asker_laid_in_first(self):
        line = line_of(("a", "anna", 7), ("b", "anna", 2), ("d", "dora", 1))
        self.assertEqual(line.take(["b", "d"]), "b")
        self.assertEqual(line.ahead("a"), [("b", 2, "unable")])
        self.assertEqual(line.ahead("d"), [("b", 2, "rank")])

    def test_in_the_order_of_the_takes(self):
        line = line_of(("e", "emil", 1), ("a", "anna", 2), ("b", "bert", 3), ("c", "bert", 4), ("d", "dora", 5))
        takes = [line.take(line.waiting()), line.take(["b", "d", "c"]), line.take(["a", "d"]), line.take(["c"])]
        self.assertEqual(takes, ["e", "b", "a", "c"])
        self.assertEqual(line.ahead("d"),
                         [("e", 1, "rank"), ("b", 3, "rank"), ("a", 2, "rank"), ("c", 4, "unable")])
        self.assertEqual(line.ahead("c"), [("e", 1, "rank"), ("b", 3, "own"), ("a", 2, "unable")])
        self.assertEqual(line.ahead("a"), [("e", 1, "rank"), ("b", 3, "unable")])
        self.assertEqual(line.ahead("b"), [("e", 1, "rank")])
        self.assertEqual(line.ahead("e"), [])

    def test_only_what_was_taken_while_it_waited(self):
        line = line_of(("a", "anna", 2), ("b", "bert", 3), ("c", "carl", 4))
        line.take(["a"])
        line.lay("d", "dora", 1)
        line.pull("b")
        line.take(["c", "d"])
        self.assertEqual(line.ahead("d"), [("c", 4, "rank")])
        self.assertEqual(line.ahead("b"), [("a", 2, "unable")])
        self.assertEqual(line.ahead("c"), [("a", 2, "unable")])
        self.assertEqual(line.ahead("a"), [])

    def test_laying_in_pulling_and_asking_note_nothing(self):
        line = line_of(("a", "anna", 2), ("b", "bert", 3))
        line.lay("c", "carl", 4)
        line.pull("b")
        line.forecast(["a", "c"])
        self.assertEqual([line.ahead(name) for name in "abc"], [[], [], []])

    def test_of_a_job_that_was_never_laid_in(self):
        line = line_of(("a", "anna", 2))
        for name in ("b", "anna", ""):
            self.refused_and_unchanged(line, ["a"], Unknown, {"name": name}, lambda: line.ahead(name))


class TheAskersOwn(LineTest):
    def test_what_is_told(self):
        line = line_of(("a", "anna", 2), ("b", "bert", 3), ("c", "anna", 1))
        line.take(["a", "b"])
        kept = face(line, "abc")
        line.waiting().append("z")
        line.waiting().clear()
        line.ahead("b").append(("z", 1, "own"))
        line.ahead("c").clear()
        line.forecast(["b", "c"]).pop()
        self.assertEqual(face(line, "abc"), kept)
        waiting = line.waiting()
        ahead = line.ahead("c")
        order = line.forecast(["b", "c"])
        line.take(["b", "c"])
        line.lay("d", "carl", 1)
        self.assertEqual((waiting, ahead, order), (["b", "c"], [("a", 2, "unable")], ["b", "c"]))
        self.assertIs(type(line.ahead("c")[0]), tuple)

    def test_what_is_handed_in(self):
        line = line_of(("a", "anna", 2), ("b", "bert", 3), ("c", "anna", 1))
        able = ["c", "b", "a"]
        self.assertEqual(line.forecast(able), ["a", "b", "c"])
        self.assertEqual(able, ["c", "b", "a"])
        self.assertEqual(line.take(able), "a")
        self.assertEqual(able, ["c", "b", "a"])
        able.clear()
        self.assertEqual(line.ahead("c"), [("a", 2, "own")])

    def test_two_lines_are_two(self):
        first = line_of(("a", "anna", 2))
        second = line_of()
        first.take(["a"])
        self.assertEqual((second.waiting(), second.level("anna"), second.mark(5)), ([], 0, 0))
        second.lay("a", "anna", 1)
        self.assertEqual(first.waiting(), [])


class Forecast(LineTest):
    def test_written_out(self):
        line = line_of(("a1", "anna", 2), ("b1", "bert", 2), ("a2", "anna", 1), ("c1", "carl", 5), ("b2", "bert", 9),
                       ("d1", "dora", 4), ("e1", "emil", 6), ("c2", "carl", 1), ("b3", "bert", 1))
        self.assertEqual(line.forecast(line.waiting()), ["e1", "a1", "b1", "c1", "c2", "b2", "a2", "b3", "d1"])
        self.assertEqual(line.forecast(["b3", "d1", "a2", "b2"]), ["a2", "b2", "b3", "d1"])
        self.assertEqual(line.forecast(["d1"]), ["d1"])
        self.assertEqual(line.forecast([]), [])

    def test_against_the_takes_that_follow(self):
        for seed in range(60):
            chance = random.Random(seed)
            line = line_of()
            for number in range(25):
                line.lay("j" + str(number), chance.choice(list(ASKERS)), chance.randrange(1, 9))
                if chance.randrange(3) == 0:
                    line.take(line.waiting())
            jobs = ["j" + str(number) for number in range(25)]
            some = [name for name in line.waiting() if chance.randrange(4)]
            chance.shuffle(some)
            kept = face(line, jobs)
            order = line.forecast(some)
            self.assertEqual(face(line, jobs), kept)
            taken = []
            left = list(some)
            while left:
                name = line.take(left)
                left.remove(name)
                taken.append(name)
            with self.subTest(seed=seed):
                self.assertEqual(order, taken)


class Model:
    """A line by the document's words, in the plainest form."""

    def __init__(self):
        self.levels = dict.fromkeys(ASKERS, 0)
        self.marks = [0] * 10
        self.laid = []
        self.waits = []
        self.notes = {}

    def row(self, name):
        return [row for row in self.laid if row[0] == name][0]

    def lay(self, name, asker, cost):
        if asker not in ASKERS:
            return ("Unknown", asker)
        if name in [row[0] for row in self.laid]:
            return ("Twice", name)
        if asker not in [self.row(other)[1] for other in self.waits]:
            self.levels[asker] = max(self.levels[asker], self.marks[ASKERS[asker][0]])
        self.laid.append((name, asker, cost))
        self.waits.append(name)
        self.notes[name] = []
        return None

    def pull(self, name):
        if name not in self.waits:
            return ("Unknown", name)
        self.waits.remove(name)
        return None

    def take(self, able):
        for name in able:
            if name not in self.waits:
                return ("Unknown", name)
        if not able:
            return None
        could = [name for name in self.waits if name in able]
        ranks = [ASKERS[self.row(name)[1]][0] for name in could]
        could = [name for name, rank in zip(could, ranks) if rank == max(ranks)]
        least = min([self.levels[self.row(name)[1]] for name in could])
        could = [name for name in could if self.levels[self.row(name)[1]] == least]
        asker = min([self.row(name)[1] for name in could])
        taken = [name for name in could if self.row(name)[1] == asker][0]
        rank, share = ASKERS[asker]
        cost = self.row(taken)[2]
        self.marks[rank] = max(self.marks[rank], least)
        self.levels[asker] += cost * LEVEL_STEPS[share]
        self.waits.remove(taken)
        for name in self.waits:
            self.notes[name].append((taken, cost, self.why(name, able, asker)))
        return taken

    def why(self, name, able, asker):
        other = self.row(name)[1]
        if name not in able:
            return "unable"
        if other == asker:
            return "own"
        return "rank" if ASKERS[asker][0] > ASKERS[other][0] else "share"


class LongRows(LineTest):
    def told_by(self, line, deed, told):
        try:
            return getattr(line, deed)(*told)
        except HallError as refusal:
            return (type(refusal).__name__, refusal.name)

    def some_deed(self, chance, model, number):
        sort = chance.choice(["lay"] * 5 + ["take"] * 5 + ["pull"])
        if sort == "lay":
            name = "j" + str(number if chance.randrange(12) else chance.randrange(number + 1))
            asker = chance.choice(list(ASKERS) * 4 + ["zoe"])
            return (sort, [name, asker, chance.randrange(1, 30)])
        if sort == "pull":
            return (sort, ["j" + str(chance.randrange(number + 1))])
        able = list(model.waits) if chance.randrange(2) else [name for name in model.waits if chance.randrange(2)]
        chance.shuffle(able)
        if chance.randrange(12) == 0:
            able.insert(chance.randrange(len(able) + 1), "x")
        return (sort, [able])

    def test_against_a_plain_model(self):
        for seed in range(60):
            chance = random.Random(seed)
            line = line_of()
            model = Model()
            for number in range(120):
                deed, told = self.some_deed(chance, model, number)
                with self.subTest(seed=seed, number=number, deed=deed):
                    self.assertEqual(self.told_by(line, deed, told), self.told_by(model, deed, told))
                    self.assertEqual(line.waiting(), model.waits)
                    self.assertEqual({asker: line.level(asker) for asker in ASKERS}, model.levels)
                    self.assertEqual([line.mark(rank) for rank in range(10)], model.marks)
            self.assertEqual({name: line.ahead(name) for name in model.notes}, model.notes)


if __name__ == "__main__":
    unittest.main()
