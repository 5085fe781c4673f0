"""A hall's two plans for a printer, and how many copies of a job lie whole (point 36)."""

import itertools
import random
import unittest

from helping import HallDeeds, empty_hall, hall_of, hall_picture
from test_changes import slow_changes

from spoolhall.errors import NoWay, Unknown
from spoolhall.hall import Hall
from spoolhall.plans import change_plan, copies_whole, hand_plan

LAYOUT_HOLDS = {"one": 1, "both": 2, "up:2": 4, "up:3": 6}


def sheets_needed(job):
    """By kinds of paper, what the job needs with a slip, sheet by sheet."""
    needed = {job.paper: 1}
    for copy in range(job.copies):
        for sheet in range(-(-job.pages // LAYOUT_HOLDS[job.layout])):
            kind = job.cover if sheet == 0 and job.cover is not None else job.paper
            needed[kind] = needed.get(kind, 0) + 1
    return needed


def fits(hall, printer, names, ways):
    """Whether the jobs, in this order, find their paper if the hand goes these ways."""
    rooms = hall.printer_of(printer).papers()
    left = {kind: hall.printer_of(printer).paper_left(kind) for kind in rooms}
    for place, name in enumerate(names):
        if place in ways:
            left = dict(rooms)
        for kind, many in sheets_needed(hall.job_of(name)).items():
            left[kind] -= many
        if any(many < 0 for many in left.values()):
            return False
    return True


def small_hall(rooms=None, path=2):
    """A hall with one printer and three askers, full of ink."""
    hall = Hall()
    hall.add_printer("p", ["both", "colour", "staple"], path, rooms or {"thick": 9, "plain": 20, "thin": 6}, 9000, 9000)
    hall.fill("p", 9000, 9000)
    for name, rank, share in (("anna", 5, 1), ("bert", 5, 3), ("carl", 7, 2)):
        hall.add_asker(name, rank, share)
    return hall


class ChangePlans(HallDeeds):
    def is_plan(self, hall, printer, loaded):
        """The plan mixes the first eight able jobs with the fewest changes; asking changes nothing."""
        kept = hall_picture(hall)
        told = change_plan(hall, printer)
        self.assertEqual(hall_picture(hall), kept)
        self.assertIs(type(told), tuple)
        names, many = told
        self.assertIs(type(names), list)
        able = hall.able(printer)[:8]
        self.assertEqual(sorted(names), sorted(able))
        self.assertTrue(self.keeps_rows(hall, names, able))
        self.assertEqual(many, self.many_of(hall, names, loaded))
        return able, many

    def keeps_rows(self, hall, names, able):
        """Whether each asker's jobs come as they were laid in."""
        askers = {hall.job_of(name).asker for name in able}
        return all([name for name in names if hall.job_of(name).asker == asker]
                   == [name for name in able if hall.job_of(name).asker == asker] for asker in askers)

    def is_fewest(self, hall, printer, loaded):
        """No order of the same jobs has fewer changes."""
        able, many = self.is_plan(hall, printer, loaded)
        best = min(self.many_of(hall, names, loaded) for names in itertools.permutations(able)
                   if self.keeps_rows(hall, list(names), able))
        self.assertEqual(many, best)

    def many_of(self, hall, names, loaded):
        return slow_changes([hall.job_of(name).paper for name in names], loaded)

    def test_no_able_jobs(self):
        hall = hall_of()
        self.assertEqual(change_plan(hall, "p1"), ([], 0))
        hall.lay("a anna 1 staple")
        hall.lay("b anna 1 after:a")
        self.assertEqual(change_plan(hall, "p2"), ([], 0))

    def test_one_able_job(self):
        hall = hall_of("a anna 1 paper:thick", "b anna 1 paper:thin")
        self.assertEqual(change_plan(hall, "p1"), (["a"], 1))
        self.assertEqual(change_plan(hall, "p2"), (["b"], 1))
        self.assertEqual(change_plan(hall, "p3"), (["a"], 1))

    def test_rows_are_kept(self):
        hall = hall_of("a anna 1", "b anna 1 paper:thick", "c anna 1", "d bert 1 paper:thick", "e bert 1")
        names, many = change_plan(hall, "p1")
        self.assertEqual(many, 3)
        self.is_fewest(hall, "p1", "")

    def test_rows_and_their_jobs_as_they_were_laid_in(self):
        # Only the order in which they were laid in is one of each asker's.
        hall = hall_of("z anna 1 paper:thick", "y bert 1", "b anna 1", "a bert 1 paper:thick")
        names, many = change_plan(hall, "p1")
        self.assertEqual(many, 3)
        self.assertIn(names, (["z", "y", "b", "a"], ["z", "b", "y", "a"], ["y", "z", "a", "b"], ["y", "a", "z", "b"]))

    def test_the_kind_is_the_papers_and_not_the_covers(self):
        hall = hall_of("a anna 1 cover:thick", "b bert 1 paper:thick cover:plain", "c carl 1")
        self.assertEqual(change_plan(hall, "p1")[1], 2)
        self.is_fewest(hall, "p1", "")

    def test_the_kind_that_was_fed_last(self):
        hall = hall_of("s carl 2 cover:thick", "a anna 1", "b bert 1 paper:thick")
        self.assertEqual(hall.start("p1"), "s")
        self.assertEqual(change_plan(hall, "p1")[1], 2)
        hall.step("p1", 1)
        self.assertEqual(change_plan(hall, "p1"), (["a", "b"], 1))
        hall.step("p1", 1)
        self.assertEqual(change_plan(hall, "p1"), (["b", "a"], 1))
        hall.step("p1", 1)
        self.assertEqual(change_plan(hall, "p1"), (["a", "b"], 1))
        hall.step("p1", 9)
        self.assertEqual(change_plan(hall, "p1"), (["a", "b"], 1))

    def test_what_another_printer_fed_is_not_loaded(self):
        hall = hall_of("s carl 2 paper:thick", "a anna 1", "b bert 1 paper:thick")
        self.assertEqual(hall.start("p1"), "s")
        hall.step("p1", 9)
        self.assertEqual(change_plan(hall, "p1"), (["b", "a"], 1))
        self.assertEqual(change_plan(hall, "p3")[1], 2)
        self.assertEqual(change_plan(hall, "p2"), (["a"], 1))

    def test_loading_is_not_feeding(self):
        hall = hall_of("a anna 1 paper:thick")
        hall.load("p1", "thick", 1)
        self.assertEqual(change_plan(hall, "p1"), (["a"], 1))

    def test_a_loaded_kind_that_no_able_job_has(self):
        hall = hall_of("s carl 1 paper:thin", "a anna 1", "b anna 1")
        hall.start("p2")
        hall.step("p2", 9)
        self.assertEqual(change_plan(hall, "p2"), (["a", "b"], 1))

    def test_the_first_eight_of_more(self):
        lines = ["j" + str(number) + " " + asker + " 1" + paper for number, (asker, paper) in enumerate(
            [("anna", ""), ("bert", " paper:thick"), ("carl", ""), ("dora", " paper:thick")] * 3)]
        hall = hall_of(*lines)
        names, many = change_plan(hall, "p1")
        self.assertEqual(sorted(names), ["j" + str(number) for number in range(8)])
        self.assertEqual(many, 2)
        self.is_fewest(hall, "p1", "")
        hall.drop("j0")
        self.assertEqual(sorted(change_plan(hall, "p1")[0]), ["j" + str(number) for number in range(1, 9)])

    def test_just_eight_and_nine(self):
        hall = hall_of(*["j" + str(number) + " anna 1" for number in range(8)])
        self.assertEqual(change_plan(hall, "p1"), (["j" + str(number) for number in range(8)], 1))
        hall.lay("j8 anna 1")
        self.assertEqual(change_plan(hall, "p1"), (["j" + str(number) for number in range(8)], 1))

    def test_the_first_eight_as_laid_in_not_as_they_would_go(self):
        hall = hall_of(*["j" + str(number) + " dora 1" for number in range(8)], "k carl 1")
        self.assertNotIn("k", change_plan(hall, "p1")[0])

    def test_a_printer_that_is_not_ready_or_busy(self):
        hall = hall_of("a anna 9", "b bert 1 paper:thick", "c carl 9")
        hall.start("p1")
        hall.step("p1", 3)
        wanted = (["a", "b"], 1)
        self.assertEqual(change_plan(hall, "p1"), wanted)
        for deed in (lambda: hall.jam("p1", 0), lambda: hall.leave("p1")):
            deed()
            self.assertEqual(change_plan(hall, "p1"), wanted)

    def test_an_unknown_printer(self):
        hall = hall_of("a anna 1")
        self.refused_and_unchanged(hall, Unknown, {"name": "p9"}, lambda: change_plan(hall, "p9"))
        self.refused(Unknown, {"name": "a"}, lambda: change_plan(hall, "a"))

    def test_what_is_told_is_the_askers_own(self):
        hall = hall_of("a anna 1", "b anna 1")
        change_plan(hall, "p1")[0].clear()
        self.assertEqual(change_plan(hall, "p1"), (["a", "b"], 1))

    def test_many_halls(self):
        chance = random.Random(360)
        for many in range(60):
            hall = small_hall()
            loaded = chance.choice(["", "plain", "thick", "thin"])
            if loaded:
                hall.lay("s carl 1 paper:" + loaded)
                hall.load("p", loaded, 2)
                hall.start("p")
                hall.step("p", 2)
                hall.drop("s")
            for number in range(chance.randrange(8)):
                words = ["j" + str(number), chance.choice(["anna", "bert", "carl"]), "1",
                         "paper:" + chance.choice(["plain", "thick", "thin"])]
                hall.lay(" ".join(words + chance.choice([[], [], ["cover:thin"]])))
            self.is_fewest(hall, "p", loaded)


class HandPlans(HallDeeds):
    def is_plan(self, hall, printer):
        """The jobs by the forecast, and ways that fit; asking changes nothing."""
        kept = hall_picture(hall)
        told = hand_plan(hall, printer)
        self.assertEqual(hall_picture(hall), kept)
        self.assertIs(type(told), tuple)
        names, ways = told
        self.assertEqual((type(names), type(ways)), (list, list))
        self.assertEqual(names, hall.line.forecast(hall.able(printer)))
        self.assertEqual(ways, sorted(set(ways)))
        self.assertTrue(fits(hall, printer, names, ways))
        return names, ways

    def is_fewest(self, hall, printer):
        """Fewer ways do not do."""
        names, ways = self.is_plan(hall, printer)
        if ways:
            for fewer in itertools.combinations(range(len(names)), len(ways) - 1):
                self.assertFalse(fits(hall, printer, names, fewer))

    def test_no_able_jobs(self):
        hall = empty_hall()
        self.assertEqual(hand_plan(hall, "p1"), ([], []))
        hall.lay("a anna 1 staple")
        hall.lay("b anna 999 x99 after:a")
        self.assertEqual(hand_plan(hall, "p2"), ([], []))

    def test_one_able_job(self):
        hall = empty_hall()
        hall.lay("a anna 3 x4")
        self.assertEqual(hand_plan(hall, "p1"), (["a"], [0]))
        hall.load("p1", "plain", 12)
        self.assertEqual(hand_plan(hall, "p1"), (["a"], [0]))
        hall.load("p1", "plain", 1)
        self.assertEqual(hand_plan(hall, "p1"), (["a"], []))

    def test_by_the_forecast(self):
        hall = hall_of("a dora 1", "b bert 1", "c carl 1", "d anna 1", "e bert 1", "f anna 1")
        self.assertEqual(hand_plan(hall, "p1"), (["c", "d", "b", "e", "f", "a"], []))
        self.assertEqual(hall.able("p1"), ["a", "b", "c", "d", "e", "f"])

    def test_a_job_needs_a_slip_more(self):
        for line, kind, many in (
            ("a anna 5", "plain", 6), ("a anna 5 both", "plain", 4), ("a anna 5 up:2", "plain", 3),
            ("a anna 5 x3", "plain", 16), ("a anna 5 both x3", "plain", 10), ("a anna 5 cover:plain", "plain", 6),
            ("a anna 1 paper:thin", "thin", 2), ("a anna 5 paper:thin cover:thin", "thin", 6),
        ):
            hall = small_hall()
            hall.lay(line)
            hall.load("p", kind, many - 1)
            self.assertEqual(hand_plan(hall, "p"), (["a"], [0]))
            hall.load("p", kind, 1)
            self.assertEqual(hand_plan(hall, "p"), (["a"], []))

    def test_a_cover_of_another_kind(self):
        for line, plain, thick in (
            ("a anna 5 cover:thick", 5, 1), ("a anna 5 x3 cover:thick", 13, 3), ("a anna 5 x2 both cover:thick", 5, 2),
            ("a anna 1 x3 cover:thick", 1, 3),
        ):
            for short_plain, short_thick in ((0, 0), (1, 0), (0, 1)):
                hall = small_hall()
                hall.lay(line)
                hall.load("p", "plain", plain - short_plain)
                hall.load("p", "thick", thick - short_thick)
                self.assertEqual(hand_plan(hall, "p"), (["a"], [0] if short_plain + short_thick else []))

    def test_each_way_fills_all_trays(self):
        hall = small_hall({"thick": 9, "plain": 5})
        for line in ("a anna 3", "b anna 3", "c anna 8 paper:thick", "d anna 4", "e anna 1 paper:thick"):
            hall.lay(line)
        self.assertEqual(hand_plan(hall, "p"), (["a", "b", "c", "d", "e"], [0, 1, 3]))
        self.is_fewest(hall, "p")

    def test_the_job_at_the_printer_is_not_looked_at(self):
        hall = small_hall()
        hall.load("p", "plain", 10)
        hall.lay("a anna 4")
        hall.lay("b anna 4")
        self.assertEqual(hand_plan(hall, "p"), (["a", "b"], []))
        hall.start("p")
        self.assertEqual(hand_plan(hall, "p"), (["b"], []))
        hall.step("p", 5)
        self.assertEqual(hand_plan(hall, "p"), (["b"], []))
        hall.lay("c anna 1")
        self.assertEqual(hand_plan(hall, "p")[0], ["b", "c"])
        self.assertEqual(len(hand_plan(hall, "p")[1]), 1)

    def test_more_than_a_trays_room(self):
        hall = small_hall()
        for line in ("a anna 20", "b bert 19", "c carl 20", "d carl 21"):
            hall.lay(line)
        self.assertEqual(hall.line.forecast(hall.able("p")), ["c", "d", "a", "b"])
        self.refused_and_unchanged(hall, NoWay, {"place": 0}, lambda: hand_plan(hall, "p"))
        hall.drop("c")
        hall.drop("d")
        hall.lay("e carl 19")
        self.refused_and_unchanged(hall, NoWay, {"place": 1}, lambda: hand_plan(hall, "p"))
        hall.drop("a")
        self.assertEqual(hand_plan(hall, "p"), (["e", "b"], [0, 1]))

    def test_too_many_covers(self):
        hall = small_hall()
        hall.lay("a anna 2 x9 cover:thick")
        self.assertEqual(hand_plan(hall, "p"), (["a"], [0]))
        hall.lay("b anna 2 x10 cover:thick")
        self.refused_and_unchanged(hall, NoWay, {"place": 1}, lambda: hand_plan(hall, "p"))
        hall.drop("b")
        hall.lay("c anna 2 x7 cover:thin")
        self.refused_and_unchanged(hall, NoWay, {"place": 1}, lambda: hand_plan(hall, "p"))

    def test_more_than_eight(self):
        hall = small_hall()
        for number in range(30):
            hall.lay("j" + str(number) + " " + ("anna", "bert", "carl")[number % 3] + " 4 paper:plain")
        names, ways = self.is_plan(hall, "p")
        self.assertEqual(len(names), 30)
        self.assertEqual(ways, list(range(0, 30, 4)))

    def test_a_printer_that_is_not_ready(self):
        hall = small_hall()
        hall.lay("a anna 4")
        for deed in (lambda: hall.jam("p", 0), lambda: hall.leave("p")):
            deed()
            self.assertEqual(hand_plan(hall, "p"), (["a"], [0]))

    def test_an_unknown_printer(self):
        hall = hall_of("a anna 1")
        self.refused_and_unchanged(hall, Unknown, {"name": "p9"}, lambda: hand_plan(hall, "p9"))

    def test_what_is_told_is_the_askers_own(self):
        hall = small_hall()
        hall.lay("a anna 4")
        for part in hand_plan(hall, "p"):
            part.clear()
        self.assertEqual(hand_plan(hall, "p"), (["a"], [0]))

    def some_jobs(self, hall, chance):
        for number in range(chance.randrange(8)):
            words = ["j" + str(number), chance.choice(["anna", "bert", "carl"]), str(chance.randrange(1, 6))]
            words += chance.choice([[], ["both"], ["up:3"]]) + chance.choice([[], [], ["x2"]])
            words += chance.choice([[], ["paper:thick"], ["paper:thin"]])
            words += chance.choice([[], ["cover:plain"], ["cover:thin"]])
            hall.lay(" ".join(words))

    def test_many_halls(self):
        chance = random.Random(361)
        for many in range(120):
            hall = small_hall({"thick": 15, "plain": 20, "thin": 12})
            self.some_jobs(hall, chance)
            for kind, room in hall.printer_of("p").papers().items():
                hall.load("p", kind, chance.choice([0, room, chance.randrange(room + 1)]))
            self.is_fewest(hall, "p")

    def test_as_the_hall_goes_on(self):
        chance = random.Random(362)
        for many in range(40):
            hall = small_hall({"thick": 15, "plain": 20, "thin": 12}, chance.randrange(1, 5))
            self.some_jobs(hall, chance)
            names, ways = hand_plan(hall, "p")
            for place, name in enumerate(names):
                if place in ways:
                    for kind, room, left in hall.tray_rows("p"):
                        hall.load("p", kind, room - left)
                self.assertEqual(hall.start("p"), name)
                hall.step("p", 999)
                # Whatever the plan tells, no job finds a tray empty.
                self.assertEqual(hall.job_word(name), "whole")


class WholeCopies(HallDeeds):
    def test_one_by_one(self):
        hall = hall_of("a anna 3 x3 both")
        self.assertEqual(copies_whole(hall, "a"), 0)
        hall.start("p2")
        told = []
        while hall.job_word("a") == "prints":
            hall.step("p2", 1)
            told.append(copies_whole(hall, "a"))
        self.assertEqual(told, [0, 0, 0, 1, 1, 2, 2, 3])

    def test_in_several_heaps(self):
        hall = hall_of("a anna 3 x3")
        hall.start("p1")
        hall.step("p1", 5)
        self.assertEqual(copies_whole(hall, "a"), 0)
        hall.take("a", "p2")
        self.assertEqual(copies_whole(hall, "a"), 1)
        hall.step("p2", 4)
        self.assertEqual(copies_whole(hall, "a"), 2)
        hall.leave("p2")
        hall.take("a", "p3")
        hall.step("p3", 99)
        self.assertEqual(copies_whole(hall, "a"), 3)

    def test_in_each_of_a_jobs_words(self):
        hall = hall_of("a anna 2 x5", "b anna 1", "c anna 1")
        self.assertEqual(copies_whole(hall, "c"), 0)
        hall.drop("b")
        self.assertEqual(copies_whole(hall, "b"), 0)
        hall.start("p1")
        hall.step("p1", 4)
        hall.drop("a")
        self.assertEqual((hall.lack("a"), copies_whole(hall, "a")), ((2, 2), 1))
        hall.start("p1")
        hall.step("p1", 9)
        self.assertEqual(copies_whole(hall, "c"), 1)

    def test_what_is_within_does_not_lie_there(self):
        hall = hall_of("a anna 1")
        hall.start("p3")
        hall.step("p3", 2)
        self.assertEqual(copies_whole(hall, "a"), 0)
        hall.jam("p3", 1)
        self.assertEqual(copies_whole(hall, "a"), 0)
        hall.mend("p3")
        hall.step("p3", 1)
        hall.jam("p3", 1)
        self.assertEqual(copies_whole(hall, "a"), 1)

    def test_an_unknown_job(self):
        hall = hall_of("a anna 1")
        self.refused_and_unchanged(hall, Unknown, {"name": "p1"}, lambda: copies_whole(hall, "p1"))


if __name__ == "__main__":
    unittest.main()
