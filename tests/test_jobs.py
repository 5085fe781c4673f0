"""Jobs: reading a right line, writing a job, and its cost (points 5 and 7)."""

import itertools
import unittest

from spoolhall.jobs import Job, cost, read_job, written

VALUES = ("name", "asker", "pages", "copies", "layout", "paper", "cover", "colour", "staple", "after")

# What holds of a job of which only the name, the asker and the pages are told.
UNTOLD = {"copies": 1, "layout": "one", "paper": "plain", "cover": None, "colour": None, "staple": False, "after": ()}


def values_of(job):
    return {name: getattr(job, name) for name in VALUES}


def wanted_values(name, asker, pages, **told):
    return {"name": name, "asker": asker, "pages": pages, **UNTOLD, **told}


class JobTest(unittest.TestCase):
    def same_values(self, job, wanted):
        self.assertIsInstance(job, Job)
        told = values_of(job)
        self.assertEqual(told, wanted)
        for name in VALUES:
            # True is equal to 1, but no whole number.
            self.assertIs(type(told[name]), type(wanted[name]), name)

    def reads(self, line, name, asker, pages, **told):
        with self.subTest(line=line):
            self.same_values(read_job(line), wanted_values(name, asker, pages, **told))


class Made(JobTest):
    def test_values_in_their_order(self):
        job = Job("letter", "anna", 7, 3, "up:4", "thick", "glossy", (2, 5), True, ("a", "b"))
        self.same_values(job, {
            "name": "letter", "asker": "anna", "pages": 7, "copies": 3, "layout": "up:4", "paper": "thick",
            "cover": "glossy", "colour": (2, 5), "staple": True, "after": ("a", "b"),
        })

    def test_values_of_the_plainest(self):
        job = Job("a", "b", 1, 1, "one", "plain", None, None, False, ())
        self.same_values(job, wanted_values("a", "b", 1))

    def test_two_jobs_keep_their_own(self):
        first = Job("a", "b", 1, 1, "one", "plain", None, None, False, ("c",))
        Job("d", "e", 2, 3, "both", "thick", "thin", (1, 2), True, ())
        self.same_values(first, wanted_values("a", "b", 1, after=("c",)))


class Head(JobTest):
    def test_what_holds_where_nothing_else_is_told(self):
        self.reads("letter anna 12", "letter", "anna", 12)

    def test_names_of_one_and_twelve_signs(self):
        self.reads("a b 1", "a", "b", 1)
        self.reads("abcdefghij12 z23456789012 1", "abcdefghij12", "z23456789012", 1)

    def test_name_and_asker_may_be_alike(self):
        self.reads("anna anna 3", "anna", "anna", 3)

    def test_every_number_of_pages(self):
        for pages in range(1, 1000):
            self.reads("a b " + str(pages), "a", "b", pages)

    def test_names_like_other_words(self):
        for word in ("x2", "staple", "both", "one", "plain", "up", "colour", "paper", "after", "x", "x99"):
            self.reads(word + " b 4", word, "b", 4)
            self.reads("a " + word + " 4", "a", word, 4)
            self.reads("a b 4 paper:" + word, "a", "b", 4, paper=word)
            self.reads("a b 4 cover:" + word, "a", "b", 4, cover=word)
            self.reads("a b 4 after:" + word, "a", "b", 4, after=(word,))
        self.reads("x2 staple 5 x3 both", "x2", "staple", 5, copies=3, layout="both")


class EachSort(JobTest):
    def test_copies(self):
        for copies in range(1, 100):
            self.reads("a b 9 x" + str(copies), "a", "b", 9, copies=copies)

    def test_layouts(self):
        self.reads("a b 9 both", "a", "b", 9, layout="both")
        for many in range(2, 17):
            self.reads("a b 9 up:" + str(many), "a", "b", 9, layout="up:" + str(many))

    def test_every_span_of_colour(self):
        for pages in (1, 2, 3, 11):
            for first in range(1, pages + 1):
                for last in range(first, pages + 1):
                    line = "a b " + str(pages) + " colour:" + str(first) + "-" + str(last)
                    self.reads(line, "a", "b", pages, colour=(first, last))

    def test_colour_of_a_long_job(self):
        self.reads("a b 999 colour:1-999", "a", "b", 999, colour=(1, 999))
        self.reads("a b 999 colour:999-999", "a", "b", 999, colour=(999, 999))
        self.reads("a b 999 colour:9-10", "a", "b", 999, colour=(9, 10))
        self.reads("a b 999 colour:2-100", "a", "b", 999, colour=(2, 100))

    def test_paper(self):
        self.reads("a b 9 paper:thick", "a", "b", 9, paper="thick")
        self.reads("a b 9 paper:plain", "a", "b", 9)
        self.reads("a b 9 paper:abcdefghij12", "a", "b", 9, paper="abcdefghij12")

    def test_cover(self):
        self.reads("a b 9 cover:thick", "a", "b", 9, cover="thick")
        self.reads("a b 9 cover:plain", "a", "b", 9, cover="plain")
        self.reads("a b 9 cover:abcdefghij12", "a", "b", 9, cover="abcdefghij12")

    def test_cover_of_the_jobs_own_paper(self):
        self.reads("a b 9 paper:thick cover:thick", "a", "b", 9, paper="thick", cover="thick")

    def test_staple(self):
        self.reads("a b 9 staple", "a", "b", 9, staple=True)

    def test_after(self):
        self.reads("a b 9 after:c", "a", "b", 9, after=("c",))
        self.reads("a b 9 after:abcdefghij12", "a", "b", 9, after=("abcdefghij12",))

    def test_after_its_own_name_and_its_askers(self):
        self.reads("a b 9 after:a", "a", "b", 9, after=("a",))
        self.reads("a b 9 after:b", "a", "b", 9, after=("b",))

    def test_several_names_after_keep_their_order(self):
        for names in itertools.permutations(("c", "a", "z9", "after")):
            line = "a b 9 " + " ".join(["after:" + name for name in names])
            self.reads(line, "a", "b", 9, after=names)

    def test_many_names_after(self):
        names = tuple("n" + str(number) for number in range(39, 0, -1))
        line = "a b 9 " + " ".join(["after:" + name for name in names])
        self.reads(line, "a", "b", 9, after=names)

    def test_names_after_that_are_names_of_papers(self):
        self.reads("a b 9 paper:c cover:c after:c", "a", "b", 9, paper="c", cover="c", after=("c",))


class Together(JobTest):
    WORDS = {
        "x7": {"copies": 7},
        "up:4": {"layout": "up:4"},
        "colour:2-5": {"colour": (2, 5)},
        "paper:thick": {"paper": "thick"},
        "cover:thin": {"cover": "thin"},
        "staple": {"staple": True},
        "after:c": {"after": ("c",)},
    }

    def test_any_of_them_in_any_order(self):
        for many in range(len(self.WORDS) + 1):
            for words in itertools.permutations(self.WORDS, many):
                told = {}
                for word in words:
                    told.update(self.WORDS[word])
                self.same_values(read_job(" ".join(("a", "b", "5") + words)), wanted_values("a", "b", 5, **told))

    def test_names_after_between_other_words(self):
        self.reads("a b 5 after:d x2 after:c staple after:a both", "a", "b", 5,
                   copies=2, layout="both", staple=True, after=("d", "c", "a"))

    def test_a_line_leaves_nothing_for_the_next(self):
        self.reads("a b 5 x7 up:4 colour:2-5 paper:thick cover:thin staple after:c", "a", "b", 5,
                   copies=7, layout="up:4", colour=(2, 5), paper="thick", cover="thin", staple=True, after=("c",))
        self.reads("a b 5", "a", "b", 5)
        self.reads("a b 5 after:c after:d", "a", "b", 5, after=("c", "d"))


class Written(JobTest):
    def check(self, job, line):
        with self.subTest(line=line):
            told = written(job)
            self.assertIs(type(told), str)
            self.assertEqual(told, line)
            self.same_values(read_job(told), values_of(job))

    def test_the_plainest(self):
        self.check(Job("a", "b", 1, 1, "one", "plain", None, None, False, ()), "a b 1")
        self.check(Job("letter", "anna", 999, 1, "one", "plain", None, None, False, ()), "letter anna 999")

    def test_each_value_alone(self):
        self.check(Job("a", "b", 5, 2, "one", "plain", None, None, False, ()), "a b 5 x2")
        self.check(Job("a", "b", 5, 99, "one", "plain", None, None, False, ()), "a b 5 x99")
        self.check(Job("a", "b", 5, 1, "both", "plain", None, None, False, ()), "a b 5 both")
        self.check(Job("a", "b", 5, 1, "up:2", "plain", None, None, False, ()), "a b 5 up:2")
        self.check(Job("a", "b", 5, 1, "up:16", "plain", None, None, False, ()), "a b 5 up:16")
        self.check(Job("a", "b", 5, 1, "one", "plain", None, (1, 1), False, ()), "a b 5 colour:1-1")
        self.check(Job("a", "b", 5, 1, "one", "plain", None, (2, 5), False, ()), "a b 5 colour:2-5")
        self.check(Job("a", "b", 5, 1, "one", "thick", None, None, False, ()), "a b 5 paper:thick")
        self.check(Job("a", "b", 5, 1, "one", "plain", "thick", None, False, ()), "a b 5 cover:thick")
        self.check(Job("a", "b", 5, 1, "one", "plain", None, None, True, ()), "a b 5 staple")
        self.check(Job("a", "b", 5, 1, "one", "plain", None, None, False, ("a",)), "a b 5 after:a")

    def test_a_cover_of_the_jobs_own_paper_is_written(self):
        self.check(Job("a", "b", 5, 1, "one", "plain", "plain", None, False, ()), "a b 5 cover:plain")
        self.check(Job("a", "b", 5, 1, "one", "thick", "thick", None, False, ()), "a b 5 paper:thick cover:thick")
        self.check(Job("a", "b", 5, 1, "one", "thick", "plain", None, False, ()), "a b 5 paper:thick cover:plain")

    def test_names_after_stay_as_they_were_told(self):
        for names in itertools.permutations(("c", "a", "z9", "b")):
            job = Job("a", "b", 5, 1, "one", "plain", None, None, False, names)
            self.check(job, "a b 5 " + " ".join(["after:" + name for name in names]))

    def test_all_together_in_their_order(self):
        job = Job("a", "b", 5, 7, "up:4", "thick", "thin", (2, 5), True, ("d", "c"))
        self.check(job, "a b 5 x7 up:4 colour:2-5 paper:thick cover:thin staple after:d after:c")

    def test_every_mix_of_values(self):
        mixes = itertools.product(
            [(1, ""), (2, " x2"), (99, " x99")],
            [("one", ""), ("both", " both"), ("up:2", " up:2"), ("up:16", " up:16")],
            [(None, ""), ((1, 1), " colour:1-1"), ((1, 12), " colour:1-12"), ((12, 12), " colour:12-12")],
            [("plain", ""), ("thick", " paper:thick")],
            [(None, ""), ("plain", " cover:plain"), ("thick", " cover:thick")],
            [(False, ""), (True, " staple")],
            [((), ""), (("j1",), " after:j1"), (("z", "j1", "a"), " after:z after:j1 after:a")],
        )
        for mix in mixes:
            copies, layout, colour, paper, cover, staple, after = [value for value, _ in mix]
            job = Job("j1", "anna", 12, copies, layout, paper, cover, colour, staple, after)
            self.check(job, "j1 anna 12" + "".join([text for _, text in mix]))

    def test_what_was_read_is_written_in_order_and_without_what_holds_untold(self):
        job = read_job("a b 5 after:d staple x1 cover:plain after:c paper:plain colour:2-5 both")
        self.check(job, "a b 5 both colour:2-5 cover:plain staple after:d after:c")

    def test_writing_changes_no_job(self):
        job = Job("a", "b", 5, 7, "up:4", "thick", "thin", (2, 5), True, ("d", "c"))
        kept = values_of(job)
        first = written(job)
        self.same_values(job, kept)
        self.assertEqual(written(job), first)


class Cost(JobTest):
    def check(self, pages, copies, wanted):
        job = Job("a", "b", pages, copies, "up:4", "thick", "thin", (1, 1), True, ("c",))
        kept = values_of(job)
        with self.subTest(pages=pages, copies=copies):
            self.assertEqual(cost(job), wanted)
            self.assertIs(type(cost(job)), int)
            self.same_values(job, kept)

    def test_pages_times_copies(self):
        self.check(1, 1, 1)
        self.check(12, 1, 12)
        self.check(1, 12, 12)
        self.check(7, 3, 21)
        self.check(2, 3, 6)
        self.check(999, 99, 98901)

    def test_cost_of_a_line(self):
        self.assertEqual(cost(read_job("a b 5")), 5)
        self.assertEqual(cost(read_job("a b 5 x4 both cover:thick")), 20)


if __name__ == "__main__":
    unittest.main()
