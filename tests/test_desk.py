"""The desk's lines and its answers, and what the hall refuses through it (point 38)."""

import random
import unittest

from helping import HallDeeds, hall_picture

from spoolhall.desk import Desk
from spoolhall.errors import (
    Busy, Dry, HallError, NoPrinter, NotNow, Nowhere, NoWay, Over, TooMuch, Twice, Unknown,
)

OPENING = (
    "printer p1 2 1000 1000 plain:500 both thick:50 staple colour",
    "printer p2 1 1000 1000 plain:500",
    "asker anna 5 1",
    "asker bert 5 2",
    "asker carl 9 1",
    "load p1 plain 100",
    "load p1 thick 20",
    "fill p1 500 100",
    "load p2 plain 100",
    "fill p2 500 0",
)


def opened(*lines):
    """A desk with printers and askers, behind these lines."""
    desk = Desk()
    for line in OPENING + lines:
        desk.say(line)
    return desk


class Answers(HallDeeds):
    def says(self, desk, *rows):
        """Each line has its answer, a text that does not end with a blank."""
        for line, answer in rows:
            told = desk.say(line)
            self.assertEqual(told, answer, line)
            self.assertIs(type(told), str)

    def test_printers(self):
        desk = Desk()
        self.says(
            desk,
            ("printer p1 2 100 200 plain:500 both thick:50 staple colour", "ok"),
            ("printer p2 4 32 999999999 x:1", "ok"),
            ("printer p3 1 999999999 32 staple both:999999999 colour:2 both", "ok"),
        )
        first, second, third = (desk.hall.printer_of(name) for name in ("p1", "p2", "p3"))
        self.assertEqual((first.can, first.path, first.papers()), (("both", "staple", "colour"), 2,
                                                                  {"plain": 500, "thick": 50}))
        self.assertEqual(list(first.papers()), ["plain", "thick"])
        self.assertEqual((second.can, second.path, second.papers()), ((), 4, {"x": 1}))
        self.assertEqual((third.can, third.path), (("staple", "both"), 1))
        self.assertEqual(third.papers(), {"both": 999999999, "colour": 2})
        self.says(desk, ("fill p1 100 200", "ok"), ("fill p2 32 999999999", "ok"), ("fill p3 999999999 32", "ok"))
        self.refused(TooMuch, {"name": "black"}, lambda: desk.say("fill p2 1 0"))
        self.refused(TooMuch, {"name": "colour"}, lambda: desk.say("fill p3 0 1"))
        self.refused(Twice, {"name": "p1"}, lambda: desk.say("printer p1 1 32 32 a:1"))

    def test_askers(self):
        desk = Desk()
        self.says(desk, ("asker anna 0 1", "ok"), ("asker bert 9 10", "ok"), ("asker p1 5 5", "ok"))
        self.assertEqual((desk.hall.line.ranks, desk.hall.line.shares),
                         ({"anna": 0, "bert": 9, "p1": 5}, {"anna": 1, "bert": 10, "p1": 5}))
        self.refused(Twice, {"name": "anna"}, lambda: desk.say("asker anna 9 9"))

    def test_jobs(self):
        desk = opened()
        self.says(desk, ("job a anna 3", "ok"), ("job b bert 12 x3 both staple after:a", "ok"), ("how b", "waits"))
        self.assertEqual(desk.hall.job_of("b").copies, 3)
        self.refused(Twice, {"name": "a"}, lambda: desk.say("job a bert 1"))
        self.refused(Unknown, {"name": "zoe"}, lambda: desk.say("job c zoe 1"))
        lacks = [("p1", ["paper:gold"]), ("p2", ["paper:gold", "staple"])]
        self.refused(NoPrinter, {"job": "c", "lacks": lacks}, lambda: desk.say("job c anna 1 staple paper:gold"))

    def test_starts(self):
        desk = opened("job a anna 3", "job b carl 3 staple")
        self.says(desk, ("start p2", "a"), ("start p1", "b"))
        desk.say("drop a")
        self.says(desk, ("start p2", "-"))
        self.refused(Busy, {"job": "b"}, lambda: desk.say("start p1"))
        desk.say("jam p1 0")
        self.refused(NotNow, {"found": "jammed"}, lambda: desk.say("start p1"))
        self.refused(Unknown, {"name": "p9"}, lambda: desk.say("start p9"))

    def test_steps(self):
        desk = opened("job a anna 3")
        self.refused(Nowhere, {"job": "p1"}, lambda: desk.say("step p1 1"))
        desk.say("start p1")
        self.says(desk, ("step p1 1", "1"), ("step p1 2", "2"), ("step p1 999", "3"), ("how a", "whole"))
        self.refused(Unknown, {"name": "p9"}, lambda: desk.say("step p9 999"))

    def test_a_step_that_finds_nothing(self):
        desk = Desk()
        for line in ("printer p1 1 32 32 plain:9", "asker anna 1 1", "job a anna 3", "start p1", "load p1 plain 2"):
            desk.say(line)
        self.says(desk, ("step p1 9", "1"))
        self.refused(Dry, {"name": "black"}, lambda: desk.say("step p1 9"))

    def test_jams(self):
        desk = opened("job a anna 9", "start p1", "step p1 4")
        self.refused(TooMuch, {"name": "within"}, lambda: desk.say("jam p1 3"))
        self.says(desk, ("jam p1 0", "2"), ("mend p1", "ready"), ("step p1 2", "2"), ("jam p1 2", "0"))
        self.refused(NotNow, {"found": "jammed"}, lambda: desk.say("jam p1 0"))
        self.says(desk, ("jam p2 0", "0"), ("heap p1", "a 0 1 2"))
        self.refused(TooMuch, {"name": "within"}, lambda: desk.say("mend p2") and desk.say("jam p2 999999999"))

    def test_leaving_and_coming_back(self):
        desk = opened("job a anna 9", "start p1", "step p1 4")
        self.says(desk, ("leave p1", "2"), ("come p1", "ready"), ("jam p1 0", "0"), ("leave p1", "0"),
                  ("come p1", "jammed"), ("mend p1", "ready"), ("leave p2", "0"))
        self.refused(NotNow, {"found": "ready"}, lambda: desk.say("mend p1"))
        self.refused(NotNow, {"found": "ready"}, lambda: desk.say("come p1"))
        self.refused(NotNow, {"found": "off"}, lambda: desk.say("leave p2"))

    def test_filling(self):
        desk = opened()
        self.says(desk, ("load p1 thick 30", "ok"), ("fill p1 0 0", "ok"), ("fill p1 500 900", "ok"))
        self.refused(TooMuch, {"name": "thick"}, lambda: desk.say("load p1 thick 1"))
        self.refused(Unknown, {"name": "gold"}, lambda: desk.say("load p1 gold 1"))
        self.refused(TooMuch, {"name": "black"}, lambda: desk.say("fill p1 1 1"))
        self.refused(TooMuch, {"name": "colour"}, lambda: desk.say("fill p1 0 1"))
        self.refused(Unknown, {"name": "p9"}, lambda: desk.say("load p9 gold 999999999"))

    def test_taking_and_dropping(self):
        desk = opened("job a anna 9", "job b bert 9 staple", "start p2", "step p2 3")
        self.refused(NotNow, {"found": "waits"}, lambda: desk.say("take b p1"))
        self.says(desk, ("take a p1", "prints"), ("how a", "prints p1"), ("take a p2", "prints"), ("start p1", "b"))
        self.refused(Busy, {"job": "b"}, lambda: desk.say("take a p1"))
        desk.say("drop a")
        self.refused(NoPrinter, {"job": "b", "lacks": [("p2", ["staple"])]}, lambda: desk.say("take b p2"))
        self.refused(Over, {"job": "a"}, lambda: desk.say("drop a"))
        self.refused(Unknown, {"name": "x"}, lambda: desk.say("take x y"))
        self.refused(Unknown, {"name": "y"}, lambda: desk.say("take b y"))
        self.says(desk, ("drop b", "broken"))

    def test_taking_and_dropping_to_the_end(self):
        desk = opened("job a anna 1", "job b anna 1", "start p1", "step p1 2")
        self.says(desk, ("take a p2", "whole"), ("start p1", "b"), ("step p1 2", "2"), ("drop b", "whole"))

    def test_how_a_job_is(self):
        desk = opened("job a anna 6 both x2", "job b bert 1", "job c carl 1")
        self.says(desk, ("how a", "waits"), ("start p1", "c"), ("how c", "prints p1"), ("step p1 9", "4"),
                  ("how c", "whole"), ("drop b", "broken"), ("how b", "broken 1 1"), ("start p1", "a"),
                  ("step p1 5", "5"), ("jam p1 0", "2"), ("how a", "prints p1"), ("drop a", "broken"),
                  ("how a", "broken 1 3"))
        self.refused(Unknown, {"name": "p1"}, lambda: desk.say("how p1"))

    def test_who_went_ahead(self):
        desk = opened("job a anna 3 x2", "job b anna 1", "job c bert 2 staple", "job d carl 40", "job e bert 1")
        self.says(desk, ("ahead b", "-"), ("start p1", "d"), ("ahead b", "d 40 rank"), ("start p2", "a"),
                  ("ahead b", "d 40 rank, a 6 own"), ("ahead c", "d 40 rank, a 6 unable"), ("ahead d", "-"),
                  ("ahead e", "d 40 rank, a 6 share"), ("ahead a", "d 40 rank"))
        self.refused(Unknown, {"name": "x"}, lambda: desk.say("ahead x"))

    def test_who_waits_for_ever(self):
        desk = opened("job a anna 1 after:b", "job b anna 1", "job c anna 1 after:a", "job d anna 1")
        self.says(desk, ("never", "-"), ("drop b", "broken"), ("never", "a b; c a b"), ("job e anna 1 after:e", "ok"),
                  ("never", "a b; c a b; e e"), ("drop a", "broken"), ("never", "c a; e e"), ("drop c", "broken"),
                  ("never", "e e"), ("drop e", "broken"), ("never", "-"))

    def test_heaps(self):
        desk = opened("job a anna 2", "job b anna 12", "start p1")
        self.says(desk, ("heap p1", "-"), ("step p1 3", "3"), ("heap p1", "a"), ("step p1 9", "2"),
                  ("heap p1", "a 0 1"), ("start p1", "b"), ("step p1 12", "12"), ("heap p2", "-"),
                  ("heap p1", "a 0 1 b 0 1 2 3 4 5 6 7 8"), ("take b p2", "prints"), ("step p2 9", "3"),
                  ("heap p1", "a 0 1 b 0 1 2 3 4 5 6 7 8 9 10"), ("how b", "whole"), ("heap p2", "b 11"))
        self.refused(Unknown, {"name": "p9"}, lambda: desk.say("heap p9"))

    def test_sums(self):
        desk = Desk()
        for line in OPENING[:5]:
            desk.say(line)
        self.says(desk, ("sums p1", "0 0 0 0 0 0 0 0"), ("load p1 plain 100", "ok"), ("fill p1 50 20", "ok"),
                  ("sums p1", "100 0 0 0 50 0 20 0"), ("job a anna 3 colour:2-3", "ok"), ("start p1", "a"),
                  ("step p1 4", "4"), ("sums p1", "100 4 2 0 50 1 20 2"), ("leave p1", "2"),
                  ("sums p1", "100 4 2 2 50 1 20 2"), ("sums p2", "0 0 0 0 0 0 0 0"))
        self.refused(Unknown, {"name": "p9"}, lambda: desk.say("sums p9"))

    def test_plans(self):
        desk = opened("job s carl 1 paper:thick", "start p1", "step p1 9")
        self.says(desk, ("plan p1", "0"), ("plan p2", "0"), ("job a anna 1", "ok"), ("plan p2", "1 a"),
                  ("job b bert 1 paper:thick", "ok"), ("plan p1", "1 b a"), ("plan p2", "1 a"), ("job c anna 1", "ok"),
                  ("plan p1", "1 b a c"))
        self.refused(Unknown, {"name": "p9"}, lambda: desk.say("plan p9"))

    def test_the_hands_ways(self):
        desk = Desk()
        for line in ("printer p1 1 32 32 plain:5 thick:2", "asker anna 1 1", "load p1 plain 3"):
            desk.say(line)
        self.says(desk, ("hand p1", "-"), ("job a anna 2", "ok"), ("hand p1", "a"), ("job b anna 2", "ok"),
                  ("hand p1", "a +b"), ("job c anna 3", "ok"), ("hand p1", "a +b +c"),
                  ("job d anna 1 cover:thick", "ok"), ("hand p1", "a +b +c d"))
        desk.say("job e anna 5")
        self.refused(NoWay, {"place": 4}, lambda: desk.say("hand p1"))
        self.refused(Unknown, {"name": "p9"}, lambda: desk.say("hand p9"))

    def test_names_whatever_has_them(self):
        desk = Desk()
        self.says(desk, ("printer printer 1 32 32 job:9 plain:9", "ok"), ("asker job 1 1", "ok"),
                  ("job never job 1 paper:job", "ok"), ("load printer job 9", "ok"), ("fill printer 9 9", "ok"),
                  ("start printer", "never"), ("how never", "prints printer"), ("step printer 9", "3"),
                  ("heap printer", "never 0"), ("never", "-"))

    def test_desks_share_nothing(self):
        first = opened("job a anna 3")
        second = Desk()
        self.assertEqual(second.say("never"), "-")
        self.refused(Unknown, {"name": "p1"}, lambda: second.say("heap p1"))
        self.assertEqual(first.say("how a"), "waits")

    def test_a_whole_day(self):
        desk = opened()
        self.says(
            desk,
            ("job letter anna 4 x2 both", "ok"), ("job poster bert 2 colour:1-2 paper:thick", "ok"),
            ("job book carl 3 cover:thick staple after:letter", "ok"), ("plan p1", "2 letter poster"),
            ("start p1", "letter"), ("step p1 3", "3"), ("heap p1", "letter"), ("jam p1 1", "1"),
            ("heap p1", "letter 0"), ("start p2", "-"), ("mend p1", "ready"), ("step p1 999", "5"),
            ("heap p1", "letter 0 1 2 3"), ("how letter", "whole"), ("start p1", "book"),
            ("ahead poster", "letter 8 share, book 3 rank"), ("step p1 2", "2"), ("leave p1", "2"),
            ("how book", "prints p1"), ("come p1", "ready"), ("step p1 4", "4"), ("drop book", "whole"),
            ("heap p1", "letter 0 1 2 3 book 0 1 2"), ("hand p1", "poster"), ("start p1", "poster"),
            ("step p1 9", "5"), ("how poster", "whole"), ("sums p1", "120 15 12 3 500 14 100 2"), ("never", "-"),
        )


class NeverABlank(HallDeeds):
    def test_no_answer_ends_with_one(self):
        chance = random.Random(38)
        desk = opened()
        printers = ["p1", "p2", "p9"]
        jobs = ["j" + str(number) for number in range(12)]
        for many in range(1500):
            printer, job, other = chance.choice(printers), chance.choice(jobs), chance.choice(jobs)
            line = chance.choice([
                "job " + job + " anna 3" + chance.choice(["", " after:" + other]), "job " + job + " carl 2 staple",
                "start " + printer, "step " + printer + " 4", "jam " + printer + " 1", "leave " + printer,
                "mend " + printer, "come " + printer, "load " + printer + " plain 2", "fill " + printer + " 1 0",
                "take " + job + " " + printer, "drop " + job, "how " + job, "ahead " + job, "never", "heap " + printer,
                "sums " + printer, "plan " + printer, "hand " + printer,
            ])
            kept = hall_picture(desk.hall)
            try:
                answer = desk.say(line)
            except HallError:
                self.assertEqual(hall_picture(desk.hall), kept)
                continue
            self.assertTrue(answer)
            self.assertEqual(answer, answer.strip())
            self.assertNotIn("  ", answer)


if __name__ == "__main__":
    unittest.main()
