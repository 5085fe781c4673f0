"""A hall's deeds at its printers, what they write, and what they refuse (points 35 and 37)."""

import unittest

from helping import HallDeeds, empty_hall, hall_of, hall_picture

from spoolhall.errors import Busy, Dry, NoPrinter, NotNow, Nowhere, Over, TooMuch, Unknown
from spoolhall.hall import Hall


def feed(printer, name, number, kind="plain", black=1, coloured=0):
    return ("feed", printer, kind, name, number, black, coloured)


def slip(printer, name, kind="plain"):
    return ("feed", printer, kind, name, -1, 0, 0)


def out(printer, name, *numbers):
    return [("out", printer, name, number) for number in numbers]


def lost(printer, name, *numbers):
    return [("lost", printer, name, number) for number in numbers]


def begun(line, printer="p1", steps=0):
    """A hall with a job at the printer, so many steps behind its start."""
    hall = hall_of(line)
    hall.start(printer)
    if steps:
        hall.step(printer, steps)
    return hall


class Filling(HallDeeds):
    def test_loads_are_written(self):
        hall = empty_hall()
        self.assertIsNone(self.writes(hall, [("load", "p1", "thick", 7)], lambda: hall.load("p1", "thick", 7)))
        self.writes(hall, [("load", "p1", "plain", 0)], lambda: hall.load("p1", "plain", 0))
        self.writes(hall, [("load", "p1", "thick", 43)], lambda: hall.load("p1", "thick", 43))
        self.assertEqual([hall.printer_of("p1").paper_left(kind) for kind in ("plain", "thick")], [0, 50])

    def test_inks_are_written(self):
        hall = empty_hall()
        self.assertIsNone(self.writes(hall, [("ink", "p2", 5, 9)], lambda: hall.fill("p2", 5, 9)))
        self.writes(hall, [("ink", "p2", 0, 0)], lambda: hall.fill("p2", 0, 0))
        self.assertEqual(hall.printer_of("p2").ink_left(), (5, 9))

    def test_in_any_state(self):
        hall = empty_hall()
        for deed in (lambda: hall.jam("p1", 0), lambda: hall.leave("p1"), lambda: hall.come("p1")):
            deed()
            self.writes(hall, [("load", "p1", "plain", 2)], lambda: hall.load("p1", "plain", 2))
            self.writes(hall, [("ink", "p1", 1, 2)], lambda: hall.fill("p1", 1, 2))

    def test_refused(self):
        hall = hall_of()
        self.refused_and_unchanged(hall, Unknown, {"name": "thin"}, lambda: hall.load("p1", "thin", 1))
        self.refused_and_unchanged(hall, Unknown, {"name": "thin"}, lambda: hall.load("p1", "thin", 0))
        self.refused_and_unchanged(hall, TooMuch, {"name": "thick"}, lambda: hall.load("p1", "thick", 11))
        self.refused_and_unchanged(hall, TooMuch, {"name": "black"}, lambda: hall.fill("p1", 4001, 4501))
        self.refused_and_unchanged(hall, TooMuch, {"name": "black"}, lambda: hall.fill("p1", 4001, 0))
        self.refused_and_unchanged(hall, TooMuch, {"name": "colour"}, lambda: hall.fill("p1", 4000, 4501))
        self.refused_and_unchanged(hall, Unknown, {"name": "p9"}, lambda: hall.load("p9", "gold", 9999))
        self.refused_and_unchanged(hall, Unknown, {"name": "p9"}, lambda: hall.fill("p9", 9999, 9999))


class Steps(HallDeeds):
    def test_one_by_one(self):
        hall = begun("a anna 2")
        for rows in (
            [slip("p1", "a")],
            [feed("p1", "a", 0)],
            [feed("p1", "a", 1)] + out("p1", "a", -1),
            out("p1", "a", 0),
            out("p1", "a", 1),
        ):
            self.assertEqual(hall.job_word("a"), "prints")
            self.assertEqual(self.writes(hall, rows, lambda: hall.step("p1", 1)), 1)
        self.assertEqual((hall.job_word("a"), hall.job_at("a")), ("whole", None))
        self.assertEqual(hall.heap("p1"), [("a", -1), ("a", 0), ("a", 1)])

    def test_paper_and_ink_of_what_is_fed(self):
        hall = begun("a carl 5 x2 up:2 colour:2-3 paper:thick cover:plain staple")
        rows = [
            slip("p1", "a", "thick"),
            feed("p1", "a", 0, "plain", 2, 2),
            feed("p1", "a", 1, "thick", 1, 0), *out("p1", "a", -1),
            feed("p1", "a", 2, "plain", 2, 2), *out("p1", "a", 0),
            feed("p1", "a", 3, "thick", 1, 0), *out("p1", "a", 1),
            *out("p1", "a", 2), *out("p1", "a", 3),
        ]
        self.assertEqual(self.writes(hall, rows, lambda: hall.step("p1", 999)), 7)
        self.assertEqual(hall.printer_of("p1").paper_left("plain"), 38)
        self.assertEqual(hall.printer_of("p1").paper_left("thick"), 37)
        self.assertEqual(hall.printer_of("p1").ink_left(), (994, 496))

    def test_a_sheet_without_black_ink(self):
        hall = begun("a anna 1 colour:1-1", "p3")
        rows = [slip("p3", "a"), feed("p3", "a", 0, "plain", 0, 1)] + out("p3", "a", -1, 0)
        self.assertEqual(self.writes(hall, rows, lambda: hall.step("p3", 4)), 4)

    def test_as_many_as_told(self):
        for many in (1, 2, 3, 4):
            hall = begun("a anna 9")
            self.assertEqual(hall.step("p1", many), many)
            self.assertEqual(len([row for row in hall.book() if row[0] == "feed"]), many)
            self.assertEqual(hall.step("p1", many), many)
            self.assertEqual(len([row for row in hall.book() if row[0] == "feed"]), 2 * many)

    def test_by_many_as_by_one(self):
        first = begun("a anna 4 x3 both")
        second = begun("a anna 4 x3 both")
        self.assertEqual(first.step("p1", 9), 9)
        self.assertEqual([second.step("p1", 1) for many in range(9)], [1] * 9)
        self.assertEqual(first.book(), second.book())
        self.assertEqual(hall_picture(first), hall_picture(second))

    def test_up_to_the_end_of_the_job(self):
        for line, steps in (("a anna 1", 4), ("a anna 3", 6), ("a anna 3 x2", 9), ("a anna 7 both", 7)):
            for many in (steps, steps + 1, 999):
                hall = begun(line)
                self.assertEqual(hall.step("p1", many), steps)
                self.assertEqual(hall.job_word("a"), "whole")
                self.refused_and_unchanged(hall, Nowhere, {"job": "p1"}, lambda: hall.step("p1", 1))

    def test_the_next_job_is_not_begun(self):
        hall = hall_of("a anna 1", "b anna 1")
        hall.start("p1")
        self.assertEqual(hall.step("p1", 999), 4)
        self.assertEqual(hall.job_word("b"), "waits")

    def test_up_to_a_refusal(self):
        hall = empty_hall()
        hall.lay("a anna 9")
        hall.load("p1", "plain", 4)
        hall.fill("p1", 9, 0)
        hall.start("p1")
        self.assertEqual(hall.step("p1", 999), 4)
        self.assertEqual(hall.heap("p1"), [("a", -1), ("a", 0)])
        self.refused_and_unchanged(hall, Dry, {"name": "plain"}, lambda: hall.step("p1", 999))
        self.refused_and_unchanged(hall, Dry, {"name": "plain"}, lambda: hall.step("p1", 1))
        hall.load("p1", "plain", 2)
        self.assertEqual(hall.step("p1", 2), 2)
        self.refused_and_unchanged(hall, Dry, {"name": "plain"}, lambda: hall.step("p1", 1))
        hall.load("p1", "plain", 100)
        self.assertEqual(hall.step("p1", 999), 6)
        self.assertEqual(hall.job_word("a"), "whole")

    def test_refused_for_each_ink(self):
        hall = empty_hall()
        hall.lay("a anna 3 colour:2-3")
        hall.load("p1", "plain", 9)
        hall.start("p1")
        self.assertEqual(hall.step("p1", 9), 1)
        self.refused_and_unchanged(hall, Dry, {"name": "black"}, lambda: hall.step("p1", 9))
        hall.fill("p1", 1, 1)
        self.assertEqual(hall.step("p1", 9), 2)
        self.refused_and_unchanged(hall, Dry, {"name": "colour"}, lambda: hall.step("p1", 9))
        hall.fill("p1", 0, 1)
        self.assertEqual(hall.step("p1", 9), 3)
        self.assertEqual(hall.job_word("a"), "whole")

    def test_a_cover_that_is_used_up(self):
        hall = empty_hall()
        hall.lay("a anna 2 x2 cover:thick")
        hall.load("p1", "plain", 9)
        hall.load("p1", "thick", 1)
        hall.fill("p1", 9, 0)
        hall.start("p1")
        self.assertEqual(hall.step("p1", 9), 3)
        self.refused_and_unchanged(hall, Dry, {"name": "thick"}, lambda: hall.step("p1", 9))

    def test_pushes_need_nothing(self):
        hall = empty_hall()
        hall.lay("a anna 1")
        hall.load("p1", "plain", 2)
        hall.fill("p1", 1, 0)
        hall.start("p1")
        self.assertEqual(hall.step("p1", 9), 4)
        self.assertEqual(hall.job_word("a"), "whole")

    def test_no_job_at_the_printer(self):
        hall = begun("a anna 9", "p1", 3)
        self.refused_and_unchanged(hall, Nowhere, {"job": "p2"}, lambda: hall.step("p2", 1))
        hall.jam("p2", 0)
        self.refused_and_unchanged(hall, Nowhere, {"job": "p2"}, lambda: hall.step("p2", 1))
        hall.leave("p2")
        self.refused_and_unchanged(hall, Nowhere, {"job": "p2"}, lambda: hall.step("p2", 999))
        hall.take("a", "p3")
        self.refused_and_unchanged(hall, Nowhere, {"job": "p1"}, lambda: hall.step("p1", 1))
        hall.drop("a")
        self.refused_and_unchanged(hall, Nowhere, {"job": "p3"}, lambda: hall.step("p3", 1))

    def test_a_printer_that_is_not_ready(self):
        hall = begun("a anna 9", "p1", 3)
        hall.jam("p1", 1)
        self.refused_and_unchanged(hall, NotNow, {"found": "jammed"}, lambda: hall.step("p1", 1))
        hall.leave("p1")
        self.refused_and_unchanged(hall, NotNow, {"found": "off"}, lambda: hall.step("p1", 999))
        hall.come("p1")
        hall.mend("p1")
        self.assertEqual(hall.step("p1", 1), 1)

    def test_an_unknown_printer(self):
        hall = begun("a anna 9")
        self.refused_and_unchanged(hall, Unknown, {"name": "p9"}, lambda: hall.step("p9", 1))

    def test_no_steps(self):
        hall = begun("a anna 9", "p1", 3)
        kept = hall_picture(hall)
        self.assertEqual(hall.step("p1", 0), 0)
        self.assertEqual(hall_picture(hall), kept)

    def test_each_printer_does_its_own(self):
        hall = hall_of("a anna 2", "b bert 2")
        self.assertEqual([hall.start("p1"), hall.start("p2")], ["a", "b"])
        self.writes(hall, [slip("p2", "b"), feed("p2", "b", 0)] + out("p2", "b", -1), lambda: hall.step("p2", 2))
        self.writes(hall, [slip("p1", "a"), feed("p1", "a", 0)], lambda: hall.step("p1", 2))
        self.assertEqual((hall.heap("p1"), hall.heap("p2"), hall.heap("p3")), ([], [("b", -1)], []))


class Jams(HallDeeds):
    def test_saving_none_to_all_within(self):
        for saved in range(5):
            came, gone = [2, 3, 4, 5][:saved], [2, 3, 4, 5][saved:]
            hall = begun("a anna 9", "p3", 7)
            self.assertEqual(hall.heap("p3"), [("a", -1), ("a", 0), ("a", 1)])
            told = self.writes(hall, out("p3", "a", *came) + lost("p3", "a", *gone), lambda: hall.jam("p3", saved))
            self.assertEqual(told, ([("a", number) for number in came], [("a", number) for number in gone]))
            self.assertEqual(hall.heap("p3"), [("a", number) for number in [-1, 0, 1] + came])
            self.assertEqual(hall.mend("p3"), "ready")
            number = 2 + len(came)
            self.writes(hall, [feed("p3", "a", number)], lambda: hall.step("p3", 1))

    def test_saving_more_than_is_within(self):
        hall = begun("a anna 9", "p3", 7)
        for saved in (5, 6, 999999999):
            self.refused_and_unchanged(hall, TooMuch, {"name": "within"}, lambda: hall.jam("p3", saved))
        hall.jam("p3", 4)

    def test_a_slip_that_is_lost_is_fed_again(self):
        hall = begun("a anna 9", "p3", 3)
        told = self.writes(hall, lost("p3", "a", -1, 0, 1), lambda: hall.jam("p3", 0))
        self.assertEqual(told, ([], [("a", -1), ("a", 0), ("a", 1)]))
        hall.mend("p3")
        self.writes(hall, [slip("p3", "a"), feed("p3", "a", 0)], lambda: hall.step("p3", 2))

    def test_a_job_that_becomes_whole_by_it(self):
        hall = begun("a anna 2", "p3", 3)
        told = self.writes(hall, out("p3", "a", -1, 0, 1), lambda: hall.jam("p3", 3))
        self.assertEqual(told, ([("a", -1), ("a", 0), ("a", 1)], []))
        self.assertEqual((hall.job_word("a"), hall.job_at("a")), ("whole", None))
        self.refused_and_unchanged(hall, Nowhere, {"job": "p3"}, lambda: hall.step("p3", 1))

    def test_without_a_job_at_it(self):
        hall = hall_of("a anna 1")
        for saved in (1, 2):
            self.refused_and_unchanged(hall, TooMuch, {"name": "within"}, lambda: hall.jam("p1", saved))
        self.assertEqual(self.writes(hall, [], lambda: hall.jam("p1", 0)), ([], []))
        self.refused_and_unchanged(hall, NotNow, {"found": "jammed"}, lambda: hall.start("p1"))

    def test_with_nothing_within_yet(self):
        hall = begun("a anna 1")
        self.refused_and_unchanged(hall, TooMuch, {"name": "within"}, lambda: hall.jam("p1", 1))
        self.assertEqual(self.writes(hall, [], lambda: hall.jam("p1", 0)), ([], []))

    def test_not_ready_goes_ahead_of_too_much(self):
        for hall in (begun("a anna 9", "p1", 3), hall_of("a anna 9")):
            hall.jam("p1", 0)
            for saved in (0, 1):
                self.refused_and_unchanged(hall, NotNow, {"found": "jammed"}, lambda: hall.jam("p1", saved))
            hall.leave("p1")
            for saved in (0, 1):
                self.refused_and_unchanged(hall, NotNow, {"found": "off"}, lambda: hall.jam("p1", saved))

    def test_the_lists_told_are_the_askers_own(self):
        hall = begun("a anna 9", "p3", 7)
        told = hall.jam("p3", 2)
        told[0].clear()
        told[1].clear()
        self.assertEqual(hall.heap("p3"), [("a", -1), ("a", 0), ("a", 1), ("a", 2), ("a", 3)])
        hall.heap("p3").clear()
        hall.book().clear()
        self.assertEqual(len(hall.heap("p3")), 5)
        self.assertEqual(hall.book()[-2:], lost("p3", "a", 4, 5))


class LeavingAndComingBack(HallDeeds):
    def test_what_is_within_is_lost(self):
        hall = begun("a anna 9", "p1", 4)
        told = self.writes(hall, lost("p1", "a", 1, 2), lambda: hall.leave("p1"))
        self.assertEqual(told, [("a", 1), ("a", 2)])
        told.clear()
        self.assertEqual(hall.book()[-2:], lost("p1", "a", 1, 2))
        self.assertEqual((hall.job_word("a"), hall.job_at("a")), ("prints", "p1"))
        self.assertEqual(self.writes(hall, [], lambda: hall.come("p1")), "ready")
        self.writes(hall, [feed("p1", "a", 1)], lambda: hall.step("p1", 1))

    def test_leaving_jammed_loses_nothing(self):
        hall = begun("a anna 9", "p1", 4)
        hall.jam("p1", 1)
        self.assertEqual(self.writes(hall, [], lambda: hall.leave("p1")), [])
        self.assertEqual(self.writes(hall, [], lambda: hall.come("p1")), "jammed")
        self.assertEqual(self.writes(hall, [], lambda: hall.mend("p1")), "ready")
        self.writes(hall, [feed("p1", "a", 2)], lambda: hall.step("p1", 1))

    def test_without_a_job(self):
        hall = hall_of()
        self.assertEqual(self.writes(hall, [], lambda: hall.leave("p1")), [])
        self.assertEqual(hall.come("p1"), "ready")
        self.assertIsNone(hall.start("p1"))

    def test_refused(self):
        hall = begun("a anna 9", "p1", 4)
        for deed in (hall.mend, hall.come):
            self.refused_and_unchanged(hall, NotNow, {"found": "ready"}, lambda: deed("p1"))
        hall.jam("p1", 0)
        self.refused_and_unchanged(hall, NotNow, {"found": "jammed"}, lambda: hall.come("p1"))
        hall.leave("p1")
        for deed in (hall.mend, hall.leave):
            self.refused_and_unchanged(hall, NotNow, {"found": "off"}, lambda: deed("p1"))


class Takes(HallDeeds):
    def test_what_is_within_comes_out_first(self):
        hall = begun("a anna 9", "p1", 4)
        rows = out("p1", "a", 1, 2)
        self.assertEqual(self.writes(hall, rows, lambda: hall.take("a", "p2")), "prints")
        self.assertEqual(hall.job_at("a"), "p2")
        self.assertEqual(hall.heap("p1"), [("a", -1), ("a", 0), ("a", 1), ("a", 2)])
        rows = [slip("p2", "a"), feed("p2", "a", 3)] + out("p2", "a", -1)
        self.writes(hall, rows, lambda: hall.step("p2", 2))

    def test_by_the_same_printer_again(self):
        hall = begun("a anna 9", "p1", 4)
        self.assertEqual(self.writes(hall, out("p1", "a", 1, 2), lambda: hall.take("a", "p1")), "prints")
        self.assertEqual(hall.job_at("a"), "p1")
        self.writes(hall, [slip("p1", "a"), feed("p1", "a", 3)], lambda: hall.step("p1", 2))

    def test_from_a_printer_that_is_jammed_or_off(self):
        for deed in (lambda hall: hall.jam("p1", 1), lambda hall: hall.leave("p1")):
            hall = begun("a anna 9", "p1", 4)
            deed(hall)
            self.assertEqual(self.writes(hall, [], lambda: hall.take("a", "p2")), "prints")
            self.assertEqual(hall.job_at("a"), "p2")

    def test_one_that_becomes_whole_by_it(self):
        for printer in ("p1", "p2"):
            hall = begun("a anna 2", "p1", 3)
            self.assertEqual(self.writes(hall, out("p1", "a", 0, 1), lambda: hall.take("a", printer)), "whole")
            self.assertIsNone(hall.job_at("a"))
            self.refused_and_unchanged(hall, Nowhere, {"job": printer}, lambda: hall.step(printer, 1))

    def test_only_one_that_prints(self):
        hall = hall_of("a anna 1", "b anna 1", "c anna 1")
        hall.start("p1")
        hall.step("p1", 4)
        hall.drop("b")
        hall.leave("p2")
        for name, word in (("a", "whole"), ("b", "broken"), ("c", "waits")):
            for printer in ("p1", "p2"):
                self.refused_and_unchanged(hall, NotNow, {"found": word}, lambda: hall.take(name, printer))

    def test_busy(self):
        hall = hall_of("a anna 9", "b bert 9")
        self.assertEqual([hall.start("p1"), hall.start("p2")], ["a", "b"])
        hall.step("p1", 4)
        self.refused_and_unchanged(hall, Busy, {"job": "b"}, lambda: hall.take("a", "p2"))
        self.refused_and_unchanged(hall, Busy, {"job": "a"}, lambda: hall.take("b", "p1"))

    def test_a_printer_that_lacks_something(self):
        hall = begun("a carl 9 staple cover:thick colour:2-2 both", "p1", 4)
        values = {"job": "a", "lacks": [("p2", ["cover:thick", "colour", "staple"])]}
        self.refused_and_unchanged(hall, NoPrinter, values, lambda: hall.take("a", "p2"))
        values = {"job": "a", "lacks": [("p3", ["both"])]}
        self.refused_and_unchanged(hall, NoPrinter, values, lambda: hall.take("a", "p3"))

    def test_a_printer_that_is_not_ready(self):
        hall = begun("a anna 9", "p1", 4)
        hall.jam("p2", 0)
        hall.leave("p3")
        self.refused_and_unchanged(hall, NotNow, {"found": "jammed"}, lambda: hall.take("a", "p2"))
        self.refused_and_unchanged(hall, NotNow, {"found": "off"}, lambda: hall.take("a", "p3"))
        hall.jam("p1", 0)
        self.refused_and_unchanged(hall, NotNow, {"found": "jammed"}, lambda: hall.take("a", "p1"))

    def test_which_refusal_goes_first(self):
        hall = hall_of("a anna 9 staple", "b bert 9", "c anna 1 staple")
        self.assertEqual([hall.start("p1"), hall.start("p2")], ["a", "b"])
        hall.jam("p2", 0)
        self.refused_and_unchanged(hall, Unknown, {"name": "x"}, lambda: hall.take("x", "y"))
        self.refused_and_unchanged(hall, Unknown, {"name": "y"}, lambda: hall.take("c", "y"))
        self.refused_and_unchanged(hall, NotNow, {"found": "waits"}, lambda: hall.take("c", "p2"))
        self.refused_and_unchanged(hall, Busy, {"job": "b"}, lambda: hall.take("a", "p2"))
        hall.drop("b")
        self.refused_and_unchanged(
            hall, NoPrinter, {"job": "a", "lacks": [("p2", ["staple"])]}, lambda: hall.take("a", "p2")
        )
        hall.jam("p3", 0)
        self.refused_and_unchanged(hall, NotNow, {"found": "jammed"}, lambda: hall.take("a", "p3"))

    def test_the_former_printer_is_free(self):
        hall = hall_of("a anna 9", "b anna 9")
        hall.start("p1")
        hall.step("p1", 4)
        hall.take("a", "p2")
        self.assertEqual(hall.start("p1"), "b")
        self.writes(hall, [slip("p1", "b")], lambda: hall.step("p1", 1))


class Drops(HallDeeds):
    def test_one_that_waits(self):
        hall = hall_of("a anna 3", "b anna 3")
        self.assertEqual(self.writes(hall, [], lambda: hall.drop("a")), "broken")
        self.assertEqual((hall.job_word("a"), hall.lack("a"), hall.job_at("a")), ("broken", (1, 1), None))
        self.assertEqual(hall.able("p1"), ["b"])
        self.assertEqual(hall.ahead("b"), [])
        self.assertEqual(hall.line.level("anna"), 0)

    def test_one_that_prints(self):
        for steps, came, lack in ((0, [], (1, 1)), (1, [-1], (1, 1)), (2, [-1, 0], (1, 2)), (3, [0, 1], (2, 1)),
                                  (4, [1, 2], (2, 2))):
            hall = begun("a anna 2 x2", "p1", steps)
            self.assertEqual(self.writes(hall, out("p1", "a", *came), lambda: hall.drop("a")), "broken")
            self.assertEqual((hall.job_word("a"), hall.lack("a"), hall.job_at("a")), ("broken", lack, None))
            self.assertEqual(hall.line.level("anna"), 4 * 2520)
            self.assertIsNone(hall.start("p1"))

    def test_one_that_becomes_whole_by_it(self):
        hall = begun("a anna 2 x2", "p1", 5)
        self.assertEqual(self.writes(hall, out("p1", "a", 2, 3), lambda: hall.drop("a")), "whole")
        self.assertEqual((hall.job_word("a"), hall.lack("a"), hall.job_at("a")), ("whole", None, None))

    def test_at_a_printer_that_is_jammed_or_off(self):
        for deed in (lambda hall: hall.jam("p1", 1), lambda hall: hall.leave("p1")):
            hall = begun("a anna 9", "p1", 3)
            deed(hall)
            wanted = len(hall.heap("p1"))
            self.assertEqual(self.writes(hall, [], lambda: hall.drop("a")), "broken")
            self.assertEqual(hall.lack("a"), (1, wanted))

    def test_one_that_is_over(self):
        hall = hall_of("a anna 1", "b anna 1", "c anna 9")
        hall.start("p1")
        hall.step("p1", 4)
        hall.drop("b")
        hall.start("p1")
        hall.drop("c")
        for name in "abc":
            self.refused_and_unchanged(hall, Over, {"job": name}, lambda: hall.drop(name))

    def test_an_unknown_job(self):
        hall = hall_of("a anna 1")
        self.refused_and_unchanged(hall, Unknown, {"name": "p1"}, lambda: hall.drop("p1"))

    def test_its_printer_takes_another_one(self):
        hall = hall_of("a anna 9", "b anna 9")
        hall.start("p1")
        hall.step("p1", 2)
        hall.drop("a")
        self.assertEqual(hall.start("p1"), "b")
        self.writes(hall, [slip("p1", "b"), feed("p1", "b", 0)], lambda: hall.step("p1", 2))
        self.assertEqual(hall.heap("p1"), [("a", -1), ("a", 0)])


class Halls(HallDeeds):
    def test_halls_share_nothing(self):
        first = begun("a anna 9", "p1", 4)
        second = Hall()
        self.assertEqual((second.book(), second.never()), ([], {}))
        self.refused(Unknown, {"name": "a"}, lambda: second.job_word("a"))
        self.refused(Unknown, {"name": "p1"}, lambda: second.heap("p1"))
        self.assertEqual(len(first.heap("p1")), 2)

    def test_a_heap_of_several_jobs(self):
        hall = hall_of("a anna 1", "b anna 1")
        for many in range(2):
            hall.start("p2")
            hall.step("p2", 999)
        self.assertEqual(hall.heap("p2"), [("a", -1), ("a", 0), ("b", -1), ("b", 0)])
        self.assertEqual(hall.heap("p1"), [])


if __name__ == "__main__":
    unittest.main()
