"""Printers: how they are filled, fed and pushed, how they jam, leave and come back (points 16 and 17)."""

import random
import unittest

from helping import GREAT, HallTest, picture

from spoolhall.errors import Dry, HallError, NotNow, TooMuch, Unknown
from spoolhall.printers import Printer

STATES = ("ready", "jammed", "off", "off jammed")


def new_printer(path=2, plain=10, thick=5, black=40, colour=32):
    return Printer("p1", ["both", "colour"], path, {"plain": plain, "thick": thick}, black, colour)


def stocked(path=2):
    """A printer with ten sheets of plain, five of thick, forty of black and thirty-two of colour."""
    printer = new_printer(path)
    printer.load("plain", 10)
    printer.load("thick", 5)
    printer.fill(40, 32)
    return printer


def bring(printer, state):
    """Leads a ready printer, with nothing within, to the state."""
    if "jammed" in state:
        printer.jam(0)
    if "off" in state:
        printer.leave()


def tags(first, many):
    return [("a", number) for number in range(first, first + many)]


def feed_all(printer, fed):
    """Feeds plain sheets of these tags; tells all that came out."""
    came = []
    for tag in fed:
        came.extend(printer.feed(tag, "plain", 0, 0))
    return came


class PrinterTest(HallTest):
    def holds(self, printer, plain, thick, black, colour):
        self.assertEqual((printer.paper_left("plain"), printer.paper_left("thick")), (plain, thick))
        self.assertEqual(printer.ink_left(), (black, colour))
        self.assertIs(type(printer.ink_left()), tuple)

    def refused_and_unchanged(self, printer, refusal, values, deed):
        kept = picture(printer)
        self.refused(refusal, values, deed)
        self.assertEqual(picture(printer), kept)


class Making(PrinterTest):
    def test_its_values(self):
        printer = Printer("p7", ["staple", "both"], 3, {"thin": 4}, 32, 50)
        self.assertEqual((printer.name, printer.can, printer.path), ("p7", ("staple", "both"), 3))
        self.assertIs(type(printer.can), tuple)
        for can in ([], ["colour"], ["colour", "staple", "both"], ["both", "colour", "staple"]):
            self.assertEqual(Printer("p", can, 1, {"plain": 1}, 32, 32).can, tuple(can))

    def test_it_begins_ready_and_empty(self):
        for path in (1, 2, 3, 4):
            printer = new_printer(path)
            self.assertEqual(printer.path, path)
            self.assertEqual(printer.stands(), "ready")
            self.assertEqual(printer.within(), [])
            self.holds(printer, 0, 0, 0, 0)

    def test_papers_keep_their_order(self):
        for kinds in (["plain", "thick", "thin"], ["thin", "plain", "thick"], ["thick", "thin", "plain"]):
            rooms = {kind: place + 5 for place, kind in enumerate(kinds)}
            printer = Printer("p1", [], 1, rooms, 32, 32)
            self.assertEqual(printer.papers(), rooms)
            self.assertEqual(list(printer.papers()), kinds)
            self.assertIs(type(printer.papers()), dict)

    def test_papers_are_rooms_and_not_what_is_left(self):
        printer = stocked()
        printer.feed(("a", 0), "plain", 1, 1)
        self.assertEqual(printer.papers(), {"plain": 10, "thick": 5})

    def test_a_kind_that_it_has_not(self):
        printer = stocked()
        for kind in ("thin", "black", "colour", ""):
            self.refused_and_unchanged(printer, Unknown, {"name": kind}, lambda: printer.paper_left(kind))
            for many in (0, 1, GREAT):
                self.refused_and_unchanged(printer, Unknown, {"name": kind}, lambda: printer.load(kind, many))

    def test_kinds_called_like_the_inks(self):
        printer = Printer("p1", [], 1, {"black": 2, "colour": 3, "within": 4}, 32, 33)
        printer.load("black", 2)
        printer.fill(32, 33)
        self.assertEqual((printer.paper_left("black"), printer.paper_left("colour")), (2, 0))
        self.assertEqual(printer.ink_left(), (32, 33))
        printer.feed(("a", 0), "black", 5, 6)
        self.assertEqual(printer.paper_left("black"), 1)
        self.assertEqual(printer.ink_left(), (27, 27))
        self.refused_and_unchanged(printer, Dry, {"name": "colour"}, lambda: printer.feed(("a", 1), "colour", 0, 0))

    def test_what_was_handed_in_is_its_own(self):
        can = ["both"]
        papers = {"plain": 3, "thick": 4}
        printer = Printer("p1", can, 1, papers, 32, 32)
        can.append("staple")
        papers["plain"] = 1
        papers["thin"] = 5
        papers.pop("thick")
        self.assertEqual(printer.can, ("both",))
        self.assertEqual(printer.papers(), {"plain": 3, "thick": 4})
        printer.load("plain", 3)
        printer.load("thick", 4)
        self.refused(Unknown, {"name": "thin"}, lambda: printer.load("thin", 1))

    def test_what_was_handed_in_stays_as_it_was(self):
        can = ["both"]
        papers = {"plain": 3, "thick": 4}
        printer = Printer("p1", can, 1, papers, 32, 32)
        printer.load("plain", 2)
        printer.fill(1, 1)
        printer.feed(("a", 0), "plain", 1, 1)
        self.assertEqual((can, papers), (["both"], {"plain": 3, "thick": 4}))

    def test_what_is_told_is_the_askers_own(self):
        printer = stocked(2)
        feed_all(printer, tags(0, 2))
        kept = picture(printer)
        printer.papers()["plain"] = 99
        printer.papers().clear()
        printer.within().append(("a", 9))
        printer.within().clear()
        self.assertEqual(picture(printer), kept)
        within = printer.within()
        papers = printer.papers()
        feed_all(printer, tags(2, 1)).append(("b", 0))
        printer.push().append(("b", 0))
        self.assertEqual(printer.within(), tags(2, 1))
        printer.leave().append(("b", 0))
        self.assertEqual(printer.within(), [])
        self.assertEqual(within, tags(0, 2))
        self.assertEqual(papers, {"plain": 10, "thick": 5})

    def test_what_a_jam_or_leaving_told_is_the_askers_own(self):
        printer = stocked(4)
        feed_all(printer, tags(0, 4))
        told = printer.jam(2)
        told[0].append(("b", 0))
        told[1].clear()
        self.assertEqual(printer.within(), [])
        printer.mend()
        feed_all(printer, tags(4, 2))
        self.assertEqual(told, (tags(0, 2) + [("b", 0)], []))
        lost = printer.leave()
        printer.come()
        feed_all(printer, tags(6, 1))
        self.assertEqual(lost, tags(4, 2))

    def test_two_printers_are_two(self):
        papers = {"plain": 5}
        first = Printer("p1", [], 1, papers, 32, 32)
        second = Printer("p2", [], 1, papers, 32, 32)
        first.load("plain", 5)
        first.fill(3, 4)
        first.feed(("a", 0), "plain", 1, 1)
        first.jam(0)
        self.assertEqual(picture(second), picture(Printer("p2", [], 1, papers, 32, 32)))


class Filling(PrinterTest):
    def test_none_some_up_to_the_room_and_one_more_in_each_state(self):
        for state in STATES:
            printer = new_printer()
            bring(printer, state)
            word = state.partition(" ")[0]
            with self.subTest(state=state):
                self.assertIsNone(printer.load("plain", 0))
                self.assertIsNone(printer.load("plain", 4))
                self.holds(printer, 4, 0, 0, 0)
                self.refused_and_unchanged(printer, TooMuch, {"name": "plain"}, lambda: printer.load("plain", 7))
                self.assertIsNone(printer.load("plain", 6))
                self.holds(printer, 10, 0, 0, 0)
                self.refused_and_unchanged(printer, TooMuch, {"name": "plain"}, lambda: printer.load("plain", 1))
                self.refused_and_unchanged(printer, Unknown, {"name": "thin"}, lambda: printer.load("thin", 1))
                self.assertIsNone(printer.load("thick", 5))
                self.assertIsNone(printer.fill(0, 0))
                self.holds(printer, 10, 5, 0, 0)
                self.assertIsNone(printer.fill(8, 2))
                self.holds(printer, 10, 5, 8, 2)
                self.assertIsNone(printer.fill(32, 30))
                self.holds(printer, 10, 5, 40, 32)
                self.assertIsNone(printer.fill(0, 0))
                self.assertEqual(printer.stands(), word)

    def test_both_inks_at_once_or_not_at_all(self):
        for state in STATES:
            for black, colour, name in (
                (41, 0, "black"), (0, 33, "colour"), (41, 33, "black"), (1, 33, "colour"), (40, 33, "colour"),
                (41, 32, "black"), (GREAT, GREAT, "black"), (40, GREAT, "colour"),
            ):
                printer = new_printer()
                bring(printer, state)
                with self.subTest(state=state, black=black, colour=colour):
                    self.refused_and_unchanged(printer, TooMuch, {"name": name}, lambda: printer.fill(black, colour))
                    printer.fill(40, 32)
                    self.holds(printer, 0, 0, 40, 32)

    def test_one_more_behind_some(self):
        printer = new_printer()
        printer.fill(10, 20)
        for black, colour, name in ((31, 0, "black"), (30, 13, "colour"), (31, 13, "black"), (0, 13, "colour")):
            self.refused_and_unchanged(printer, TooMuch, {"name": name}, lambda: printer.fill(black, colour))
        printer.fill(30, 12)
        self.holds(printer, 0, 0, 40, 32)

    def test_what_was_fed_makes_room(self):
        printer = stocked()
        printer.feed(("a", 0), "plain", 3, 4)
        self.refused_and_unchanged(printer, TooMuch, {"name": "plain"}, lambda: printer.load("plain", 2))
        printer.load("plain", 1)
        printer.fill(3, 4)
        self.holds(printer, 10, 5, 40, 32)
        self.assertEqual(printer.within(), [("a", 0)])


class Feeding(PrinterTest):
    def test_until_something_comes_out_and_further(self):
        for path in (1, 2, 3, 4):
            printer = stocked(path)
            for number in range(10):
                came = printer.feed(("a", number), "plain", 2, 1)
                first = max(0, number + 1 - path)
                with self.subTest(path=path, number=number):
                    self.assertIs(type(came), list)
                    self.assertEqual(came, [("a", first - 1)] if number >= path else [])
                    self.assertEqual(printer.within(), tags(first, number + 1 - first))
                    self.holds(printer, 9 - number, 5, 38 - 2 * number, 31 - number)
                    self.assertEqual(printer.stands(), "ready")

    def test_any_tags_and_kinds(self):
        printer = stocked(2)
        fed = [("a", -1), ("a", 0), ("", GREAT), ("a", -1), ("a", -1)]
        came = [printer.feed(tag, kind, 0, 0) for tag, kind in zip(fed, ["plain", "thick", "thick", "plain", "thick"])]
        self.assertEqual(came, [[], [], [("a", -1)], [("a", 0)], [("", GREAT)]])
        self.holds(printer, 8, 2, 40, 32)

    def test_inks_of_each_sort(self):
        for black, colour in ((0, 0), (1, 0), (0, 1), (32, 0), (0, 32), (40, 32)):
            printer = stocked()
            printer.feed(("a", 0), "thick", black, colour)
            self.holds(printer, 10, 4, 40 - black, 32 - colour)

    def test_the_last_sheet_and_the_last_ink(self):
        printer = new_printer()
        printer.load("plain", 1)
        printer.fill(2, 3)
        printer.feed(("a", 0), "plain", 2, 3)
        self.holds(printer, 0, 0, 0, 0)
        self.refused_and_unchanged(printer, Dry, {"name": "plain"}, lambda: printer.feed(("a", 1), "plain", 0, 0))
        printer.load("plain", 1)
        printer.feed(("a", 1), "plain", 0, 0)
        self.assertEqual(printer.within(), tags(0, 2))

    def test_which_refusal_goes_first(self):
        for path in (1, 2, 3, 4):
            for kind, black, colour, refusal, name in (
                ("thin", 0, 0, Unknown, "thin"), ("thin", 99, 99, Unknown, "thin"), ("black", 0, 0, Unknown, "black"),
                ("thick", 0, 0, Dry, "thick"), ("thick", 9, 0, Dry, "thick"), ("thick", 9, 9, Dry, "thick"),
                ("plain", 9, 0, Dry, "black"), ("plain", 9, 9, Dry, "black"), ("plain", 9, 5, Dry, "black"),
                ("plain", 0, 6, Dry, "colour"), ("plain", 8, 6, Dry, "colour"), ("plain", 8, GREAT, Dry, "colour"),
            ):
                printer = new_printer(path)
                printer.load("plain", 6)
                printer.fill(8, 5)
                feed_all(printer, tags(0, path))
                with self.subTest(path=path, kind=kind, black=black, colour=colour):
                    self.refused_and_unchanged(
                        printer, refusal, {"name": name}, lambda: printer.feed(("a", 9), kind, black, colour)
                    )
                    self.assertEqual(printer.feed(("a", 9), "plain", 8, 5), tags(0, 1))

    def test_not_now_goes_ahead_of_all(self):
        for state in STATES[1:]:
            printer = new_printer()
            bring(printer, state)
            word = state.partition(" ")[0]
            for kind in ("thin", "plain"):
                for ink in (0, 1):
                    with self.subTest(state=state, kind=kind, ink=ink):
                        self.refused_and_unchanged(
                            printer, NotNow, {"found": word}, lambda: printer.feed(("a", 0), kind, ink, ink)
                        )
            printer.load("plain", 10)
            printer.fill(40, 32)
            self.refused_and_unchanged(
                printer, NotNow, {"found": word}, lambda: printer.feed(("a", 0), "plain", 1, 1)
            )


class Pushing(PrinterTest):
    def test_with_none_one_and_several_within(self):
        for path in (1, 2, 3, 4):
            for many in range(path + 1):
                printer = stocked(path)
                feed_all(printer, tags(0, many))
                for number in range(many):
                    came = printer.push()
                    self.assertEqual(came, [("a", number)])
                    self.assertIs(type(came), list)
                    self.assertEqual(printer.within(), tags(number + 1, many - number - 1))
                self.assertEqual(printer.push(), [])
                self.assertEqual(printer.push(), [])
                self.holds(printer, 10 - many, 5, 40, 32)
                self.assertEqual(printer.stands(), "ready")

    def test_between_feeds(self):
        printer = stocked(2)
        feed_all(printer, tags(0, 3))
        self.assertEqual(printer.push(), [("a", 1)])
        self.assertEqual(printer.feed(("a", 3), "plain", 0, 0), [])
        self.assertEqual(printer.feed(("a", 4), "plain", 0, 0), [("a", 2)])

    def test_where_the_printer_is_not_ready(self):
        for state in STATES[1:]:
            printer = stocked()
            bring(printer, state)
            self.refused_and_unchanged(printer, NotNow, {"found": state.partition(" ")[0]}, printer.push)


class Jamming(PrinterTest):
    def test_saving_none_some_all_and_one_more(self):
        for path in (1, 2, 3, 4):
            for many in range(path + 1):
                for saved in range(many + 1):
                    printer = stocked(path)
                    feed_all(printer, tags(0, many))
                    with self.subTest(path=path, many=many, saved=saved):
                        told = printer.jam(saved)
                        self.assertEqual(told, (tags(0, saved), tags(saved, many - saved)))
                        self.assertEqual([type(told), type(told[0]), type(told[1])], [tuple, list, list])
                        self.assertEqual(printer.stands(), "jammed")
                        self.assertEqual(printer.within(), [])
                        self.holds(printer, 10 - many, 5, 40, 32)
                printer = stocked(path)
                feed_all(printer, tags(0, many))
                for saved in (many + 1, many + 2, GREAT):
                    self.refused_and_unchanged(printer, TooMuch, {"name": "within"}, lambda: printer.jam(saved))

    def test_a_jam_in_another_state(self):
        for state in STATES[1:]:
            printer = stocked()
            bring(printer, state)
            for saved in (0, 1, GREAT):
                self.refused_and_unchanged(
                    printer, NotNow, {"found": state.partition(" ")[0]}, lambda: printer.jam(saved)
                )

    def test_mending(self):
        printer = stocked(3)
        feed_all(printer, tags(0, 5))
        printer.jam(1)
        self.assertEqual(printer.mend(), "ready")
        self.assertEqual(printer.stands(), "ready")
        self.assertEqual(printer.within(), [])
        self.assertEqual(feed_all(printer, tags(5, 4)), [("a", 5)])
        self.holds(printer, 1, 5, 40, 32)

    def test_mending_where_it_is_not_jammed(self):
        for state, found in (("ready", "ready"), ("off", "off"), ("off jammed", "off")):
            printer = stocked()
            bring(printer, state)
            self.refused_and_unchanged(printer, NotNow, {"found": found}, printer.mend)


class Leaving(PrinterTest):
    def test_when_ready_all_within_is_lost(self):
        for path in (1, 2, 3, 4):
            for many in range(path + 1):
                printer = stocked(path)
                feed_all(printer, tags(0, many))
                lost = printer.leave()
                with self.subTest(path=path, many=many):
                    self.assertEqual(lost, tags(0, many))
                    self.assertIs(type(lost), list)
                    self.assertEqual(printer.stands(), "off")
                    self.assertEqual(printer.within(), [])
                    self.holds(printer, 10 - many, 5, 40, 32)
                    self.assertEqual(printer.come(), "ready")
                    self.assertEqual(printer.within(), [])
                    self.assertEqual(printer.push(), [])

    def test_when_jammed_nothing_is_lost(self):
        printer = stocked(3)
        feed_all(printer, tags(0, 3))
        printer.jam(1)
        self.assertEqual(printer.leave(), [])
        self.assertEqual(printer.stands(), "off")
        self.assertEqual(printer.come(), "jammed")
        self.assertEqual(printer.stands(), "jammed")
        self.assertEqual(printer.mend(), "ready")

    def test_leaving_twice_and_coming_back_unasked(self):
        for state in ("off", "off jammed"):
            printer = stocked()
            bring(printer, state)
            self.refused_and_unchanged(printer, NotNow, {"found": "off"}, printer.leave)
        for state in ("ready", "jammed"):
            printer = stocked()
            bring(printer, state)
            self.refused_and_unchanged(printer, NotNow, {"found": state}, printer.come)

    def test_refused_with_tags_within(self):
        printer = stocked(3)
        feed_all(printer, tags(0, 3))
        for deed in (printer.mend, printer.come):
            self.refused_and_unchanged(printer, NotNow, {"found": "ready"}, deed)


class Model:
    """A printer by the document's words, in the plainest form."""

    def __init__(self, path):
        self.path = path
        self.state = "ready"
        self.left = {"plain": 0, "thick": 0, "black": 0, "colour": 0}
        self.rooms = {"plain": 10, "thick": 5, "black": 40, "colour": 32}
        self.inside = []

    def put(self, gifts):
        for name, many in gifts:
            if name not in self.left:
                return ("Unknown", name)
            if self.left[name] + many > self.rooms[name]:
                return ("TooMuch", name)
        for name, many in gifts:
            self.left[name] += many
        return None

    def feed(self, tag, kind, black, colour):
        if self.state != "ready":
            return ("NotNow", self.state.partition(" ")[0])
        if kind not in ("plain", "thick"):
            return ("Unknown", kind)
        for name, many in ((kind, 1), ("black", black), ("colour", colour)):
            if self.left[name] < many:
                return ("Dry", name)
        for name, many in ((kind, 1), ("black", black), ("colour", colour)):
            self.left[name] -= many
        self.inside.append(tag)
        came = self.inside[:max(0, len(self.inside) - self.path)]
        self.inside = self.inside[len(came):]
        return came

    def push(self):
        if self.state != "ready":
            return ("NotNow", self.state.partition(" ")[0])
        came = self.inside[:1]
        self.inside = self.inside[1:]
        return came

    def jam(self, saved):
        if self.state != "ready":
            return ("NotNow", self.state.partition(" ")[0])
        if saved > len(self.inside):
            return ("TooMuch", "within")
        told = (self.inside[:saved], self.inside[saved:])
        self.inside = []
        self.state = "jammed"
        return told

    def leave(self):
        if self.state.startswith("off"):
            return ("NotNow", "off")
        lost = self.inside
        self.inside = []
        self.state = "off " + self.state
        return lost

    def mend(self):
        if self.state != "jammed":
            return ("NotNow", self.state.partition(" ")[0])
        self.state = "ready"
        return "ready"

    def come(self):
        if not self.state.startswith("off"):
            return ("NotNow", self.state)
        self.state = self.state.partition(" ")[2]
        return self.state


def deed_of(chance, number):
    """Some deed, with what it is told."""
    sort = chance.choice(["load", "load", "fill", "feed", "feed", "feed", "feed", "push", "jam", "leave", "mend",
                          "mend", "come", "come"])
    if sort == "load":
        return (sort, [chance.choice(["plain", "plain", "thick", "thin"]), chance.choice([0, 1, 2, 5])])
    if sort == "fill":
        return (sort, [chance.choice([0, 5, 20]), chance.choice([0, 5, 20])])
    if sort == "feed":
        kind = chance.choice(["plain", "plain", "plain", "thick", "thin"])
        return (sort, [("a", number), kind, chance.choice([0, 0, 1, 6]), chance.choice([0, 0, 1, 6])])
    return (sort, [chance.randrange(4)] if sort == "jam" else [])


class LongRows(PrinterTest):
    def told_by(self, printer, deed, told):
        try:
            return getattr(printer, deed)(*told)
        except HallError as refusal:
            return (type(refusal).__name__, list(vars(refusal).values())[0])

    def wanted_of(self, model, deed, told):
        if deed == "load":
            return model.put([tuple(told)])
        if deed == "fill":
            return model.put([("black", told[0]), ("colour", told[1])])
        return getattr(model, deed)(*told)

    def test_against_a_plain_model(self):
        for seed in range(40):
            chance = random.Random(seed)
            path = seed % 4 + 1
            printer = new_printer(path)
            model = Model(path)
            for number in range(150):
                deed, told = deed_of(chance, number)
                with self.subTest(seed=seed, number=number, deed=deed, told=told):
                    self.assertEqual(self.told_by(printer, deed, told), self.wanted_of(model, deed, told))
                    self.assertEqual(printer.stands(), model.state.partition(" ")[0])
                    self.assertEqual(printer.within(), model.inside)
                    self.holds(printer, *model.left.values())


if __name__ == "__main__":
    unittest.main()
