"""A hall's jobs: laid in, able, started, their words, and those that wait for ever (points 33, 34 and 36)."""

import random
import unittest

from helping import ASKERS, HallDeeds, empty_hall, hall_of, hall_picture
from test_waits import wanted_doomed

from spoolhall.errors import BadLine, Busy, NoPrinter, NotNow, Nowhere, Twice, Unknown
from spoolhall.hall import Hall
from spoolhall.jobs import Job, written


def finish(hall, printer):
    """Does steps at the printer until its job is whole."""
    name = next(name for name in hall.runs if hall.job_at(name) == printer)
    while hall.job_word(name) == "prints":
        hall.step(printer, 999)


def printed(hall, name, printer="p1"):
    """Prints the jobs at the printer, one by one, until the one of this name is whole."""
    while hall.job_word(name) != "whole":
        hall.start(printer)
        finish(hall, printer)


class Names(HallDeeds):
    def test_a_new_hall(self):
        hall = Hall()
        self.assertEqual((hall.book(), hall.never()), ([], {}))
        for deed in (
            lambda: hall.start("p1"), lambda: hall.step("p1", 1), lambda: hall.jam("p1", 0), lambda: hall.heap("p1"),
            lambda: hall.able("p1"), lambda: hall.load("p1", "plain", 1),
        ):
            self.refused_and_unchanged(hall, Unknown, {"name": "p1"}, deed)

    def test_a_printers_name_once(self):
        hall = empty_hall()
        for name in ("p1", "p2", "p3"):
            self.refused_and_unchanged(
                hall, Twice, {"name": name}, lambda: hall.add_printer(name, [], 3, {"gold": 7}, 99, 99)
            )
        self.assertIsNone(hall.add_printer("p4", [], 3, {"gold": 7}, 99, 99))
        self.refused_and_unchanged(hall, Twice, {"name": "p4"}, lambda: hall.add_printer("p4", [], 1, {"a": 1}, 32, 32))

    def test_an_askers_name_once(self):
        hall = hall_of("a anna 3")
        for name in ASKERS:
            for rank, share in ((5, 1), (0, 9)):
                self.refused_and_unchanged(hall, Twice, {"name": name}, lambda: hall.add_asker(name, rank, share))
        self.assertIsNone(hall.add_asker("emil", 3, 3))

    def test_names_are_of_three_sorts(self):
        hall = Hall()
        hall.add_printer("x", [], 1, {"x": 9, "plain": 9}, 32, 32)
        hall.add_asker("x", 1, 1)
        self.assertEqual(hall.lay("x x 1 paper:x"), "x")
        hall.load("x", "x", 9)
        hall.fill("x", 9, 9)
        self.assertEqual(hall.start("x"), "x")
        self.assertEqual(hall.step("x", 9), 3)
        self.assertEqual(hall.heap("x"), [("x", -1), ("x", 0)])
        self.refused(Twice, {"name": "x"}, lambda: hall.lay("x x 1"))

    def test_what_is_handed_in_stays_the_askers_own(self):
        hall = Hall()
        can = ["both"]
        papers = {"plain": 5}
        hall.add_printer("p1", can, 1, papers, 32, 32)
        can.append("staple")
        papers["gold"] = 7
        papers["plain"] = 1
        hall.add_asker("anna", 1, 1)
        self.refused(
            NoPrinter, {"job": "a", "lacks": [("p1", ["paper:gold", "staple"])]},
            lambda: hall.lay("a anna 1 staple paper:gold"),
        )
        hall.load("p1", "plain", 5)
        self.assertEqual((can, papers), (["both", "staple"], {"plain": 1, "gold": 7}))


class Laying(HallDeeds):
    def test_a_job_waits_then(self):
        hall = empty_hall()
        line = "letter anna 12 x3 up:4 colour:2-3 paper:plain cover:thick staple after:x after:letter"
        self.assertEqual(self.writes(hall, [], lambda: hall.lay(line)), "letter")
        self.assertEqual(hall.job_word("letter"), "waits")
        self.assertIsNone(hall.job_at("letter"))
        self.assertIsNone(hall.lack("letter"))
        self.assertEqual(hall.ahead("letter"), [])
        self.assertEqual(hall.able("p1"), [])
        job = hall.job_of("letter")
        self.assertIs(type(job), Job)
        self.assertEqual(written(job), "letter anna 12 x3 up:4 colour:2-3 cover:thick staple after:x after:letter")

    def test_a_line_that_is_none(self):
        hall = hall_of("a anna 3")
        for line, place in (
            ("", 0), ("A anna 3", 0), ("b", 1), ("b Anna 3", 1), ("b anna", 2), ("b anna 0", 2), ("b anna 1000", 2),
            ("b anna 3 both both", 4), ("b anna 3 ", 3), (" b anna 3", 0), ("b  anna 3", 1), ("b anna 3 colour:1-4", 3),
        ):
            self.refused_and_unchanged(hall, BadLine, {"place": place}, lambda: hall.lay(line))
            self.refused(BadLine, {"place": place}, lambda: Hall().lay(line))

    def test_an_unknown_asker(self):
        hall = hall_of("a anna 3")
        for asker in ("zoe", "a", "p1"):
            self.refused_and_unchanged(hall, Unknown, {"name": asker}, lambda: hall.lay("b " + asker + " 3"))
        self.refused(Unknown, {"name": "b"}, lambda: hall.job_word("b"))

    def test_a_job_twice(self):
        hall = hall_of("a anna 1", "b bert 2", "c carl 3", "d dora 4", "e anna 5")
        self.assertEqual([hall.start("p1"), hall.drop("d")], ["c", "broken"])
        finish(hall, "p1")
        self.assertEqual(hall.start("p2"), "a")
        hall.take("a", "p3")
        hall.step("p3", 2)
        self.assertEqual(hall.start("p2"), "b")
        self.assertEqual(hall.drop("b"), "broken")
        self.assertEqual([hall.job_word(name) for name in "abcde"], ["prints", "broken", "whole", "broken", "waits"])
        for name in "abcde":
            for rest in (" anna 1", " dora 9 both"):
                self.refused_and_unchanged(hall, Twice, {"name": name}, lambda: hall.lay(name + rest))

    def test_no_printer(self):
        hall = hall_of("a anna 3")
        for line, lacks in (
            ("b bert 1 paper:gold", [["paper:gold"], ["paper:gold"], ["paper:gold"]]),
            ("b bert 1 paper:thin staple", [["paper:thin"], ["staple"], ["paper:thin"]]),
            ("b bert 2 paper:thick cover:thin both", [["cover:thin"], ["paper:thick"], ["cover:thin", "both"]]),
            ("b bert 2 cover:thin colour:1-1", [["cover:thin"], ["colour"], ["cover:thin"]]),
        ):
            values = {"job": "b", "lacks": list(zip(["p1", "p2", "p3"], lacks))}
            self.refused_and_unchanged(hall, NoPrinter, values, lambda: hall.lay(line))
        self.refused(Unknown, {"name": "b"}, lambda: hall.job_of("b"))
        self.assertEqual(hall.lay("b bert 3"), "b")

    def test_no_printer_without_printers(self):
        hall = Hall()
        hall.add_asker("anna", 5, 1)
        self.refused_and_unchanged(hall, NoPrinter, {"job": "a", "lacks": []}, lambda: hall.lay("a anna 3"))
        hall.add_printer("p1", [], 1, {"plain": 1}, 32, 32)
        self.assertEqual(hall.lay("a anna 3"), "a")

    def test_a_printer_that_is_not_ready_fits_too(self):
        hall = hall_of()
        for name in ("p1", "p2", "p3"):
            hall.jam(name, 0)
            hall.leave(name)
        self.assertEqual(hall.lay("a anna 3 staple"), "a")

    def test_which_refusal_goes_first(self):
        hall = hall_of("a anna 3")
        self.refused_and_unchanged(hall, BadLine, {"place": 4}, lambda: hall.lay("a zoe 3 paper:gold both:"))
        self.refused_and_unchanged(hall, Unknown, {"name": "zoe"}, lambda: hall.lay("a zoe 3 paper:gold"))
        self.refused_and_unchanged(hall, Twice, {"name": "a"}, lambda: hall.lay("a bert 3 paper:gold"))
        self.refused(Unknown, {"name": "zoe"}, lambda: Hall().lay("a zoe 3"))

    def test_a_refused_job_lifts_no_level(self):
        hall = hall_of("a anna 9", "b anna 9")
        printed(hall, "b")
        kept = hall_picture(hall)
        self.refused(NoPrinter, {"job": "c", "lacks": [(name, ["paper:gold"]) for name in ("p1", "p2", "p3")]},
                     lambda: hall.lay("c bert 1 paper:gold"))
        self.assertEqual(hall_picture(hall), kept)
        self.assertEqual(hall.line.level("bert"), 0)
        hall.lay("c bert 1")
        self.assertEqual(hall.line.level("bert"), 9 * 2520)

    def test_more_than_the_bounds_say(self):
        hall = Hall()
        for number in range(14):
            hall.add_printer("p" + str(number), [], 1, {"plain": 9}, 32, 32)
            hall.add_asker("n" + str(number), 1, 1)
        for number in range(70):
            hall.lay("j" + str(number) + " n" + str(number % 14) + " 1")
        self.assertEqual(len(hall.able("p13")), 70)


class Able(HallDeeds):
    def test_what_the_printer_lacks(self):
        hall = hall_of("a anna 3", "b bert 3 both", "c carl 3 staple", "d dora 3 colour:1-1", "e anna 3 paper:thin",
                       "f bert 3 cover:thick", "g carl 3 up:2 staple paper:thick", "h dora 3 cover:thin")
        self.assertEqual(hall.able("p1"), ["a", "b", "c", "d", "f", "g"])
        self.assertEqual(hall.able("p2"), ["a", "b", "e", "h"])
        self.assertEqual(hall.able("p3"), ["a", "c", "d", "f"])

    def test_as_they_were_laid_in(self):
        hall = hall_of("z dora 3", "m anna 3", "b carl 3", "a bert 3")
        self.assertEqual(hall.able("p1"), ["z", "m", "b", "a"])
        hall.drop("m")
        self.assertEqual(hall.able("p1"), ["z", "b", "a"])

    def test_whatever_its_state_and_what_it_holds(self):
        hall = empty_hall()
        hall.lay("a anna 3")
        hall.lay("b anna 3")
        self.assertEqual(hall.able("p1"), ["a", "b"])
        hall.start("p1")
        self.assertEqual(hall.able("p1"), ["b"])
        hall.jam("p1", 0)
        self.assertEqual(hall.able("p1"), ["b"])
        hall.leave("p1")
        self.assertEqual(hall.able("p1"), ["b"])

    def test_those_after_which_a_job_comes(self):
        hall = hall_of("a anna 1", "b bert 1 after:a", "c carl 1 after:b after:a", "d dora 1 after:x",
                       "e anna 1 after:e")
        self.assertEqual(hall.able("p1"), ["a"])
        hall.start("p1")
        self.assertEqual(hall.able("p1"), [])
        hall.step("p1", 2)
        self.assertEqual((hall.job_word("a"), hall.able("p1")), ("prints", []))
        hall.step("p1", 2)
        self.assertEqual((hall.job_word("a"), hall.able("p1")), ("whole", ["b"]))
        printed(hall, "b")
        self.assertEqual(hall.able("p1"), ["c"])
        hall.lay("x anna 1")
        self.assertEqual(hall.able("p1"), ["c", "x"])
        hall.drop("x")
        self.assertEqual(hall.able("p1"), ["c"])

    def test_several_after_which_a_job_comes(self):
        hall = hall_of("c carl 1 after:a after:b", "a anna 1", "b bert 1")
        self.assertEqual(hall.able("p1"), ["a", "b"])
        printed(hall, "a")
        self.assertEqual(hall.able("p1"), ["b"])
        printed(hall, "b")
        self.assertEqual(hall.able("p1"), ["c"])

    def test_a_broken_one_is_not_whole(self):
        hall = hall_of("a anna 3", "b bert 1 after:a")
        hall.start("p1")
        hall.step("p1", 3)
        self.assertEqual(hall.drop("a"), "broken")
        self.assertEqual(hall.able("p1"), [])

    def test_what_is_told_is_the_askers_own(self):
        hall = hall_of("a anna 3", "b anna 3")
        told = hall.able("p1")
        told.clear()
        self.assertEqual(hall.able("p1"), ["a", "b"])
        told = hall.able("p1")
        hall.drop("a")
        self.assertEqual(told, ["a", "b"])

    def test_an_unknown_printer(self):
        hall = hall_of("a anna 3")
        self.refused_and_unchanged(hall, Unknown, {"name": "p9"}, lambda: hall.able("p9"))


class Starting(HallDeeds):
    def test_the_one_that_the_line_takes(self):
        hall = hall_of("a dora 3", "b bert 30", "c bert 1", "d anna 9", "e carl 9")
        self.assertEqual(self.writes(hall, [], lambda: hall.start("p1")), "e")
        self.assertEqual((hall.job_word("e"), hall.job_at("e")), ("prints", "p1"))
        self.assertEqual(hall.start("p2"), "d")
        self.assertEqual(hall.start("p3"), "b")
        self.assertEqual([hall.job_at(name) for name in "abcde"], [None, "p3", None, "p2", "p1"])
        self.assertEqual([hall.line.level(name) for name in ASKERS], [9 * 2520, 30 * 1260, 9 * 2520, 0])

    def test_only_able_ones(self):
        hall = hall_of("a carl 3 staple", "b anna 3 after:a", "c dora 3")
        self.assertEqual(hall.start("p2"), "c")
        self.assertEqual(hall.ahead("a"), [("c", 3, "unable")])
        self.assertEqual(hall.ahead("b"), [("c", 3, "unable")])

    def test_none_able(self):
        hall = hall_of()
        self.assertIsNone(hall.start("p1"))
        hall.lay("a carl 3 staple")
        hall.lay("b carl 3 after:a")
        kept = hall_picture(hall)
        self.assertIsNone(hall.start("p2"))
        self.assertEqual(hall_picture(hall), kept)
        self.assertEqual(hall.ahead("a"), [])

    def test_what_is_noted_to_those_that_wait(self):
        hall = hall_of("a anna 3 x2", "b anna 1", "c bert 2", "d dora 4", "e bert 5 staple", "f dora 1 after:d")
        self.assertEqual(hall.start("p2"), "a")
        wanted = {"a": [], "b": [("a", 6, "own")], "c": [("a", 6, "share")], "d": [("a", 6, "rank")],
                  "e": [("a", 6, "unable")], "f": [("a", 6, "unable")]}
        self.assertEqual({name: hall.ahead(name) for name in wanted}, wanted)
        self.assertEqual(hall.start("p1"), "c")
        wanted["b"].append(("c", 2, "share"))
        wanted["d"].append(("c", 2, "rank"))
        wanted["e"].append(("c", 2, "own"))
        wanted["f"].append(("c", 2, "unable"))
        self.assertEqual({name: hall.ahead(name) for name in wanted}, wanted)

    def test_one_that_is_laid_in_later_is_not_told(self):
        hall = hall_of("a anna 3")
        hall.start("p1")
        hall.lay("b anna 3")
        self.assertEqual(hall.ahead("b"), [])

    def test_a_take_over_is_noted_to_nobody(self):
        hall = hall_of("a anna 3", "b anna 3")
        hall.start("p1")
        hall.take("a", "p2")
        self.assertEqual(hall.ahead("b"), [("a", 3, "own")])

    def test_not_ready_goes_ahead_of_busy(self):
        hall = hall_of("a anna 3", "b bert 3")
        hall.start("p1")
        self.refused_and_unchanged(hall, Busy, {"job": "a"}, lambda: hall.start("p1"))
        hall.jam("p1", 0)
        self.refused_and_unchanged(hall, NotNow, {"found": "jammed"}, lambda: hall.start("p1"))
        hall.leave("p1")
        self.refused_and_unchanged(hall, NotNow, {"found": "off"}, lambda: hall.start("p1"))
        hall.come("p1")
        self.refused_and_unchanged(hall, NotNow, {"found": "jammed"}, lambda: hall.start("p1"))
        hall.mend("p1")
        self.refused_and_unchanged(hall, Busy, {"job": "a"}, lambda: hall.start("p1"))
        hall.take("a", "p2")
        self.assertEqual(hall.start("p1"), "b")

    def test_refused_also_where_none_is_able(self):
        hall = hall_of("a anna 3")
        hall.leave("p2")
        hall.start("p1")
        self.refused_and_unchanged(hall, NotNow, {"found": "off"}, lambda: hall.start("p2"))
        self.refused_and_unchanged(hall, Busy, {"job": "a"}, lambda: hall.start("p1"))

    def test_free_again_when_its_job_is_whole_or_dropped(self):
        hall = hall_of("a anna 1", "b anna 1", "c anna 1")
        hall.start("p1")
        finish(hall, "p1")
        self.assertEqual(hall.start("p1"), "b")
        hall.drop("b")
        self.assertEqual(hall.start("p1"), "c")

    def test_a_printer_without_paper_starts_too(self):
        hall = empty_hall()
        hall.lay("a anna 1")
        self.assertEqual(hall.start("p1"), "a")
        self.assertEqual(hall.job_at("a"), "p1")

    def test_an_unknown_printer(self):
        hall = hall_of("p9 anna 3")
        self.refused_and_unchanged(hall, Unknown, {"name": "p9"}, lambda: hall.start("p9"))


class Words(HallDeeds):
    def test_waits_prints_whole(self):
        hall = hall_of("a anna 2")
        self.assertEqual((hall.job_word("a"), hall.job_at("a"), hall.lack("a")), ("waits", None, None))
        hall.start("p1")
        for many in range(5):
            self.assertEqual((hall.job_word("a"), hall.job_at("a"), hall.lack("a")), ("prints", "p1", None))
            hall.step("p1", 1)
        self.assertEqual((hall.job_word("a"), hall.job_at("a"), hall.lack("a")), ("whole", None, None))

    def test_prints_while_its_printer_is_jammed_or_off(self):
        hall = hall_of("a anna 2")
        hall.start("p1")
        hall.step("p1", 2)
        for deed in (lambda: hall.jam("p1", 1), lambda: hall.leave("p1"), lambda: hall.come("p1")):
            deed()
            self.assertEqual((hall.job_word("a"), hall.job_at("a"), hall.lack("a")), ("prints", "p1", None))

    def test_broken_where_it_lacks(self):
        hall = hall_of("a anna 6 both x2", "b bert 1")
        hall.start("p2")
        hall.step("p2", 4)
        self.assertEqual(hall.drop("a"), "broken")
        self.assertEqual((hall.job_word("a"), hall.job_at("a"), hall.lack("a")), ("broken", None, (2, 1)))
        hall.drop("b")
        self.assertEqual((hall.job_word("b"), hall.job_at("b"), hall.lack("b")), ("broken", None, (1, 1)))

    def test_unknown_jobs(self):
        hall = hall_of("a anna 2")
        for name in ("b", "p1", "anna", ""):
            for deed in (hall.job_word, hall.job_at, hall.job_of, hall.lack, hall.ahead, hall.drop):
                self.refused_and_unchanged(hall, Unknown, {"name": name}, lambda: deed(name))

    def test_unknown_printers(self):
        hall = hall_of("a anna 2")
        for name in ("p9", "a", "anna", ""):
            for deed in (hall.start, hall.leave, hall.mend, hall.come, hall.heap, hall.able):
                self.refused_and_unchanged(hall, Unknown, {"name": name}, lambda: deed(name))
            for deed in (
                lambda: hall.step(name, 1), lambda: hall.jam(name, 99), lambda: hall.load(name, "gold", 9999),
                lambda: hall.fill(name, 9999, 9999), lambda: hall.take("a", name),
            ):
                self.refused_and_unchanged(hall, Unknown, {"name": name}, deed)

    def test_the_list_that_is_noted_is_the_askers_own(self):
        hall = hall_of("a anna 2", "b anna 2", "c anna 2")
        hall.start("p1")
        told = hall.ahead("c")
        hall.start("p2")
        self.assertEqual(told, [("a", 2, "own")])
        told.clear()
        self.assertEqual(hall.ahead("c"), [("a", 2, "own"), ("b", 2, "own")])


class Never(HallDeeds):
    def test_none(self):
        hall = hall_of("a anna 1", "b anna 1 after:a", "c anna 1 after:x", "d anna 1 after:c")
        self.assertEqual(hall.never(), {})
        hall.start("p1")
        self.assertEqual(hall.never(), {})

    def test_after_itself(self):
        hall = hall_of("a anna 1 after:a")
        self.assertEqual(hall.never(), {"a": ["a", "a"]})

    def test_after_one_that_is_broken(self):
        hall = hall_of("a anna 2", "b anna 1 after:a", "c anna 1 after:b", "d anna 1")
        hall.drop("a")
        self.assertEqual(hall.never(), {"b": ["b", "a"], "c": ["c", "b", "a"]})

    def test_after_one_that_was_begun_and_is_broken(self):
        hall = hall_of("a anna 2", "b anna 1 after:a")
        hall.start("p1")
        hall.step("p1", 2)
        self.assertEqual(hall.never(), {})
        hall.drop("a")
        self.assertEqual(hall.never(), {"b": ["b", "a"]})

    def test_one_that_becomes_whole_by_its_drop_is_not_gone(self):
        hall = hall_of("a anna 1", "b anna 1 after:a")
        hall.start("p1")
        hall.step("p1", 2)
        self.assertEqual(hall.drop("a"), "whole")
        self.assertEqual(hall.never(), {})
        self.assertEqual(hall.able("p1"), ["b"])

    def test_rings(self):
        hall = hall_of("a anna 1 after:b", "b anna 1 after:c", "c anna 1 after:a", "d anna 1 after:b", "e anna 1")
        told = hall.never()
        self.assertEqual(list(told), ["a", "b", "c", "d"])
        self.assertEqual(told, {"a": ["a", "b", "c", "a"], "b": ["b", "c", "a", "b"], "c": ["c", "a", "b", "c"],
                                "d": ["d", "b", "c", "a", "b"]})
        hall.drop("c")
        self.assertEqual(hall.never(), {"a": ["a", "b", "c"], "b": ["b", "c"], "d": ["d", "b", "c"]})

    def test_a_name_that_comes_later_closes_a_ring(self):
        hall = hall_of("a anna 1 after:b")
        self.assertEqual(hall.never(), {})
        hall.lay("b anna 1 after:a")
        self.assertEqual(hall.never(), {"a": ["a", "b", "a"], "b": ["b", "a", "b"]})

    def test_those_that_are_whole_are_waited_for_no_more(self):
        hall = hall_of("a anna 1", "b anna 1 after:a after:c", "c anna 1")
        printed(hall, "a")
        hall.drop("c")
        self.assertEqual(hall.never(), {"b": ["b", "c"]})

    def test_in_the_order_in_which_they_were_laid_in(self):
        hall = hall_of("z anna 1 after:z", "m anna 1 after:z", "b carl 1", "a anna 1 after:m", "k anna 1 after:b")
        self.assertEqual(list(hall.never()), ["z", "m", "a"])
        hall.drop("b")
        self.assertEqual(list(hall.never()), ["z", "m", "a", "k"])

    def test_what_is_told_is_the_askers_own(self):
        hall = hall_of("a anna 1 after:a", "b anna 1 after:a")
        told = hall.never()
        told["a"].clear()
        told.pop("b")
        self.assertEqual(hall.never(), {"a": ["a", "a"], "b": ["b", "a", "a"]})
        told = hall.never()
        hall.drop("a")
        self.assertEqual(told, {"a": ["a", "a"], "b": ["b", "a", "a"]})

    def chain_shows(self, name, chain, waits, gone):
        self.assertEqual(chain[0], name)
        for first, second in zip(chain, chain[1:]):
            self.assertIn(second, waits[first])
        self.assertEqual(len(set(chain[:-1])), len(chain) - 1)
        self.assertTrue(chain[-1] in gone or chain[-1] in chain[:-1])

    def test_many_halls(self):
        chance = random.Random(36)
        names = ["j" + str(number) for number in range(12)]
        for many in range(60):
            hall = hall_of()
            after = {}
            for name in chance.sample(names, 10):
                after[name] = chance.sample(names, chance.choice([0, 0, 1, 1, 2]))
                hall.lay(" ".join([name, "anna", "1"] + ["after:" + other for other in after[name]]))
            for deed in range(5):
                self.one_more_ends(hall, chance)
                words = {name: hall.job_word(name) for name in after}
                waits = {name: [other for other in after[name] if words.get(other) != "whole"]
                         for name in after if words[name] == "waits"}
                gone = [name for name in words if words[name] == "broken"]
                told = hall.never()
                self.assertEqual(list(told), wanted_doomed(waits, gone))
                for name, chain in told.items():
                    self.chain_shows(name, chain, waits, gone)

    def one_more_ends(self, hall, chance):
        """Lets a job be dropped, or an able one be printed, or begun."""
        waiting = [name for name in hall.runs if hall.job_word(name) == "waits"]
        if waiting and chance.random() < 0.4:
            hall.drop(chance.choice(waiting))
        elif chance.random() < 0.7:
            try:
                hall.step("p1", 9)
            except Nowhere:
                hall.start("p1")
        else:
            try:
                hall.start("p2")
            except Busy:
                hall.step("p2", 2)


if __name__ == "__main__":
    unittest.main()
