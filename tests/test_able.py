"""What a job needs, what a printer lacks of it, and which printers fit (point 26)."""

import itertools
import unittest

from helping import HallTest, picture

from spoolhall.able import fitting, lacks, needs
from spoolhall.errors import NoPrinter
from spoolhall.jobs import read_job
from spoolhall.printers import Printer

WORDS = ("both", "colour", "staple")
FULL = "a anna 5 both colour:2-3 paper:thick cover:thin staple"


def printer_of(name="p1", can=(), kinds=("plain",)):
    return Printer(name, list(can), 2, {kind: 10 for kind in kinds}, 32, 32)


class Needs(HallTest):
    def check(self, line, wanted):
        job = read_job(line)
        kept = dict(vars(job))
        with self.subTest(line=line):
            told = needs(job)
            self.assertEqual(told, wanted)
            self.assertIs(type(told), list)
            self.assertEqual(vars(job), kept)

    def test_the_plainest(self):
        self.check("a anna 5", ["paper:plain"])
        self.check("a anna 5 x9 after:b", ["paper:plain"])

    def test_each_option_alone(self):
        self.check("a anna 5 paper:thick", ["paper:thick"])
        self.check("a anna 5 cover:thick", ["paper:plain", "cover:thick"])
        self.check("a anna 5 both", ["paper:plain", "both"])
        for many in range(2, 17):
            self.check("a anna 5 up:" + str(many), ["paper:plain", "both"])
        self.check("a anna 5 colour:1-1", ["paper:plain", "colour"])
        self.check("a anna 5 colour:1-5", ["paper:plain", "colour"])
        self.check("a anna 5 staple", ["paper:plain", "staple"])

    def test_a_cover_of_the_papers_own_kind(self):
        self.check("a anna 5 cover:plain", ["paper:plain", "cover:plain"])
        self.check("a anna 5 paper:thick cover:thick", ["paper:thick", "cover:thick"])

    def test_all_together(self):
        self.check(FULL, ["paper:thick", "cover:thin", "both", "colour", "staple"])
        self.check("a anna 5 staple cover:both colour:2-3 up:4 paper:colour",
                   ["paper:colour", "cover:both", "both", "colour", "staple"])

    def test_what_is_told_is_the_askers_own(self):
        job = read_job(FULL)
        needs(job).append("more")
        needs(job).clear()
        self.assertEqual(needs(job), ["paper:thick", "cover:thin", "both", "colour", "staple"])


class Lacks(HallTest):
    def check(self, line, printer, wanted):
        kept = picture(printer)
        with self.subTest(line=line, can=printer.can, papers=printer.papers()):
            told = lacks(read_job(line), printer)
            self.assertEqual(told, wanted)
            self.assertIs(type(told), list)
            self.assertEqual(picture(printer), kept)

    def test_nothing(self):
        self.check("a anna 5", printer_of(), [])
        self.check(FULL, printer_of(can=WORDS, kinds=("plain", "thick", "thin")), [])
        self.check(FULL, printer_of(can=reversed(WORDS), kinds=("thin", "thick")), [])

    def test_every_mix_of_words_and_kinds(self):
        for many in range(4):
            for can in itertools.permutations(WORDS, many):
                for kinds in (("plain",), ("thick",), ("thin",), ("thick", "thin"), ("plain", "thin")):
                    wanted = [need for need in ("paper:thick", "cover:thin")
                              if need.partition(":")[2] not in kinds]
                    wanted.extend([word for word in WORDS if word not in can])
                    self.check(FULL, printer_of(can=can, kinds=kinds), wanted)

    def test_words_that_are_not_needed(self):
        self.check("a anna 5", printer_of(can=WORDS), [])
        self.check("a anna 5 staple", printer_of(can=("both", "colour")), ["staple"])
        self.check("a anna 5 up:4", printer_of(can=("colour", "staple")), ["both"])
        self.check("a anna 5 colour:1-2", printer_of(can=("both", "staple")), ["colour"])

    def test_a_cover_of_the_papers_own_kind(self):
        self.check("a anna 5 cover:plain", printer_of(), [])
        self.check("a anna 5 cover:plain", printer_of(kinds=("thick",)), ["paper:plain", "cover:plain"])
        self.check("a anna 5 cover:thick", printer_of(), ["cover:thick"])
        self.check("a anna 5 cover:thick", printer_of(kinds=("thick",)), ["paper:plain"])

    def test_kinds_called_like_words(self):
        self.check("a anna 5 paper:both", printer_of(can=("both",)), ["paper:both"])
        self.check("a anna 5 both", printer_of(kinds=("plain", "both")), ["both"])
        self.check("a anna 5 paper:paper cover:cover", printer_of(kinds=("paper",)), ["cover:cover"])
        self.check("a anna 5 staple", printer_of(kinds=("plain", "staple")), ["staple"])

    def test_trays_count_and_not_what_they_hold(self):
        printer = printer_of()
        self.check("a anna 5", printer, [])
        printer.load("plain", 10)
        printer.fill(32, 32)
        self.check("a anna 5", printer, [])

    def test_whatever_its_state(self):
        printer = printer_of(can=("both",))
        printer.jam(0)
        self.check("a anna 5 both staple", printer, ["staple"])
        printer.leave()
        self.check("a anna 5 both staple", printer, ["staple"])

    def test_what_is_told_is_the_askers_own(self):
        job = read_job(FULL)
        printer = printer_of()
        lacks(job, printer).clear()
        self.assertEqual(len(lacks(job, printer)), 5)


class Fitting(HallTest):
    def test_those_that_lack_nothing_in_their_order(self):
        printers = [
            printer_of("z", ("both",)), printer_of("y"), printer_of("b", ("both",), ("thick",)),
            printer_of("c", ("both", "staple"), ("thin", "plain")), printer_of("a", WORDS),
        ]
        for line, wanted in (
            ("a anna 5", ["z", "y", "c", "a"]),
            ("a anna 5 both", ["z", "c", "a"]),
            ("a anna 5 paper:thick", ["b"]),
            ("a anna 5 cover:thin both", ["c"]),
            ("a anna 5 colour:1-1 staple up:2", ["a"]),
        ):
            with self.subTest(line=line):
                told = fitting(read_job(line), printers)
                self.assertEqual(told, wanted)
                self.assertIs(type(told), list)
        self.assertEqual([printer.name for printer in printers], ["z", "y", "b", "c", "a"])

    def test_one_alone(self):
        self.assertEqual(fitting(read_job("a anna 5"), [printer_of("p9")]), ["p9"])

    def test_none_that_fits(self):
        printers = [printer_of("z", ("both",)), printer_of("y", (), ("thick", "thin")), printer_of("a", WORDS)]
        job = read_job("letter anna 5 staple both cover:thin")
        kept = [picture(printer) for printer in printers]
        wanted = [("z", ["cover:thin", "staple"]), ("y", ["paper:plain", "both", "staple"]), ("a", ["cover:thin"])]
        self.refused(NoPrinter, {"job": "letter", "lacks": wanted}, lambda: fitting(job, printers))
        printers.reverse()
        wanted.reverse()
        self.refused(NoPrinter, {"job": "letter", "lacks": wanted}, lambda: fitting(job, printers))
        self.assertEqual([picture(printer) for printer in printers], list(reversed(kept)))

    def test_the_kinds_of_what_is_told(self):
        with self.assertRaises(NoPrinter) as caught:
            fitting(read_job("letter anna 5 staple"), [printer_of()])
        told = caught.exception.lacks
        self.assertEqual((type(told), type(told[0]), type(told[0][1])), (list, tuple, list))
        told[0][1].clear()
        told.clear()
        self.refused(NoPrinter, {"job": "letter", "lacks": [("p1", ["staple"])]},
                     lambda: fitting(read_job("letter anna 5 staple"), [printer_of()]))

    def test_no_printers_at_all(self):
        self.refused(NoPrinter, {"job": "letter", "lacks": []}, lambda: fitting(read_job("letter anna 5"), []))


if __name__ == "__main__":
    unittest.main()
