"""Runs that jam, lose, are taken over or dropped, and what they are refused (points 19 and 20)."""

import random
import unittest

from helping import GREAT, HallTest, full_printer, picture

from spoolhall.errors import Dry, NotNow, Nowhere, Over, TooMuch, Unknown
from spoolhall.heaps import first_lack, gathered
from spoolhall.jobs import read_job
from spoolhall.printers import Printer
from spoolhall.runs import Run


def run_of(line="a anna 5"):
    return Run(read_job(line))


def at_printer(line="a anna 5", path=2, steps=0):
    """A run taken by a full printer p1, and so many steps of it."""
    run = run_of(line)
    printer = full_printer("p1", path)
    run.take(printer)
    came = stepped(run, steps)
    return (run, printer, came)


def stepped(run, steps):
    """All that comes out by so many steps."""
    came = []
    for again in range(steps):
        came.extend(run.step())
    return came


def to_the_end(run):
    came = []
    while not run.whole():
        came.extend(run.step())
    return came


def numbers(came):
    return [number for name, number in came]


def face(run):
    """All that can be asked of a run."""
    return (run.each(), run.total(), run.out(), run.at(), run.whole(), run.lack(), run.upcoming())


class RunTest(HallTest):
    def refused_and_unchanged(self, run, printers, refusal, values, deed):
        kept = (face(run), [picture(printer) for printer in printers])
        self.refused(refusal, values, deed)
        self.assertEqual((face(run), [picture(printer) for printer in printers]), kept)

    def broken(self, run, lack):
        self.assertEqual((run.lack(), run.at(), run.upcoming()), (lack, None, None))
        self.assertIs(type(run.lack()), tuple)
        self.assertIs(run.whole(), False)

    def is_whole(self, run):
        self.assertEqual((run.lack(), run.at(), run.upcoming(), run.out()), (None, None, None, run.total()))
        self.assertIs(run.whole(), True)


class Jams(RunTest):
    def test_every_jam_of_a_job_is_made_good(self):
        row = [-1, 0, 1, 2, 3, 4]
        for path in (1, 2, 3, 4):
            for steps in range(len(row) + path):
                within = min(steps, len(row)) - len(at_printer(path=path, steps=steps)[2])
                for saved in range(within + 1):
                    run, printer, came = at_printer(path=path, steps=steps)
                    with self.subTest(path=path, steps=steps, saved=saved):
                        first = len(came)
                        told = run.jam(saved)
                        self.assertEqual(numbers(told[0]), row[first:first + saved])
                        self.assertEqual(numbers(told[1]), row[first + saved:first + within])
                        self.assertEqual(run.out(), max(0, first + saved - 1))
                        self.assertEqual(printer.stands(), "jammed")
                        came.extend(told[0])
                        if first + saved == len(row):
                            self.is_whole(run)
                            continue
                        self.assertEqual((run.at(), run.upcoming()), ("p1", ("a", row[first + saved])))
                        self.assertEqual(printer.mend(), "ready")
                        came.extend(to_the_end(run))
                        self.assertEqual(came, [("a", number) for number in row])
                        self.is_whole(run)
                        lost = within - saved
                        self.assertEqual(printer.paper_left("plain"), 200000 - len(row) - lost)

    def test_the_slip_is_fed_again(self):
        run, printer, came = at_printer(path=3, steps=2)
        self.assertEqual(run.jam(0), ([], [("a", -1), ("a", 0)]))
        self.assertEqual(run.upcoming(), ("a", -1))
        printer.mend()
        self.assertEqual(stepped(run, 1), [])
        self.assertEqual((printer.within(), run.upcoming()), ([("a", -1)], ("a", 0)))
        self.assertEqual(numbers(to_the_end(run)), [-1, 0, 1, 2, 3, 4])

    def test_a_slip_that_was_saved_is_not_fed_again(self):
        run, printer, came = at_printer(path=3, steps=3)
        self.assertEqual(run.jam(1), ([("a", -1)], [("a", 0), ("a", 1)]))
        self.assertEqual((run.out(), run.upcoming()), (0, ("a", 0)))
        printer.mend()
        self.assertEqual(numbers(to_the_end(run)), [0, 1, 2, 3, 4])

    def test_whole_by_what_a_jam_saved(self):
        for path in (1, 2, 3, 4):
            run, printer, came = at_printer("a anna 3", path, 4)
            within = printer.within()
            self.assertEqual(run.jam(len(within)), (within, []))
            self.is_whole(run)
            self.assertEqual(printer.stands(), "jammed")
            self.refused_and_unchanged(run, [printer], Over, {"job": "a"}, lambda: run.jam(0))

    def test_what_jams_told_is_the_askers_own(self):
        run, printer, came = at_printer(path=4, steps=4)
        told = run.jam(2)
        told[0].clear()
        told[1].append(("a", 9))
        self.assertEqual((run.out(), run.upcoming()), (1, ("a", 1)))
        printer.mend()
        run.step().append(("b", 5))
        self.assertEqual(printer.within(), [("a", 1)])

    def test_several_jams(self):
        run, printer, came = at_printer("a anna 2 x2", 2)
        for again in range(3):
            stepped(run, 2)
            run.jam(0)
            printer.mend()
        came = stepped(run, 4)
        for again in range(3):
            printer.leave()
            printer.come()
            self.assertEqual((run.out(), run.upcoming()), (1, ("a", 1)))
            came.extend(run.step())
        came.extend(to_the_end(run))
        self.assertEqual(numbers(came), [-1, 0, 1, 2, 3])
        self.assertEqual(printer.paper_left("plain"), 200000 - 5 - 3 * 2 - 2 - 2)


class Leaving(RunTest):
    def test_leaving_and_coming_back_amid_a_run(self):
        row = [-1, 0, 1, 2, 3, 4]
        for path in (1, 2, 3, 4):
            for steps in range(len(row) + path):
                run, printer, came = at_printer(path=path, steps=steps)
                within = printer.within()
                with self.subTest(path=path, steps=steps):
                    self.assertEqual(printer.leave(), within)
                    wanted = ("a", row[len(came)])
                    self.assertEqual((run.at(), run.upcoming(), run.out()), ("p1", wanted, max(0, len(came) - 1)))
                    self.refused_and_unchanged(run, [printer], NotNow, {"found": "off"}, run.step)
                    self.refused_and_unchanged(run, [printer], NotNow, {"found": "off"}, lambda: run.jam(0))
                    printer.come()
                    self.assertEqual(run.upcoming(), wanted)
                    came.extend(to_the_end(run))
                    self.assertEqual(numbers(came), row)

    def test_leaving_jammed(self):
        run, printer, came = at_printer(path=3, steps=3)
        run.jam(2)
        self.assertEqual(printer.leave(), [])
        self.assertEqual(run.upcoming(), ("a", 1))
        self.refused_and_unchanged(run, [printer], NotNow, {"found": "off"}, run.step)
        printer.come()
        self.refused_and_unchanged(run, [printer], NotNow, {"found": "jammed"}, run.step)
        printer.mend()
        self.assertEqual(numbers(to_the_end(run)), [1, 2, 3, 4])

    def test_loading_and_filling_amid_a_run(self):
        printer = Printer("p1", [], 1, {"plain": 1}, 32, 32)
        run = run_of("a anna 2")
        run.take(printer)
        came = []
        for again in range(3):
            self.refused_and_unchanged(run, [printer], Dry, {"name": "plain"}, run.step)
            printer.load("plain", 1)
            printer.fill(1, 0)
            came.extend(run.step())
        came.extend(run.step())
        self.assertEqual(numbers(came), [-1, 0, 1])
        self.assertEqual(printer.ink_left(), (1, 0))


class Taking(RunTest):
    def test_by_another_printer_what_is_within_comes_out_first(self):
        for path in (1, 2, 3, 4):
            for steps in range(7):
                run, former, came = at_printer(path=path, steps=steps)
                within = former.within()
                second = full_printer("p2", 2)
                kept = picture(second)
                with self.subTest(path=path, steps=steps):
                    told = run.take(second)
                    self.assertEqual(told, within)
                    self.assertIs(type(told), list)
                    self.assertEqual(former.within(), [])
                    self.assertEqual(picture(second), kept)
                    came.extend(told)
                    out = max(0, len(came) - 1)
                    self.assertEqual(run.out(), out)
                    if out == 5:
                        self.is_whole(run)
                        continue
                    self.assertEqual((run.at(), run.upcoming()), ("p2", ("a", -1)))
                    self.assertEqual(numbers(to_the_end(run)), [-1] + list(range(out, 5)))
                    self.assertEqual((former.stands(), second.stands()), ("ready", "ready"))

    def test_by_the_same_one_again(self):
        run, printer, came = at_printer(path=3, steps=4)
        self.assertEqual(numbers(came), [-1])
        self.assertEqual(numbers(run.take(printer)), [0, 1, 2])
        self.assertEqual((run.at(), run.out(), run.upcoming(), printer.within()), ("p1", 3, ("a", -1), []))
        self.assertEqual(run.take(printer), [])
        stepped(run, 1)
        self.assertEqual(run.take(printer), [("a", -1)])
        self.assertEqual((run.out(), run.upcoming()), (3, ("a", -1)))
        self.assertEqual(numbers(to_the_end(run)), [-1, 3, 4])

    def test_from_a_jammed_and_from_an_absent_one(self):
        for state in ("jammed", "off", "off jammed"):
            run, former, came = at_printer(path=3, steps=5)
            if "jammed" in state:
                run.jam(1)
            if "off" in state:
                former.leave()
            out = 2 if "jammed" in state else 1
            kept = picture(former)
            with self.subTest(state=state):
                self.assertEqual(run.out(), out)
                self.assertEqual(run.take(full_printer("p2", 1)), [])
                self.assertEqual(picture(former), kept)
                self.assertEqual((run.at(), run.upcoming()), ("p2", ("a", -1)))
                self.assertEqual(numbers(to_the_end(run)), [-1] + list(range(out, 5)))

    def test_by_one_that_is_not_ready(self):
        for state in ("jammed", "off", "off jammed"):
            run, former, came = at_printer(path=3, steps=5)
            second = full_printer("p2", 2)
            if "jammed" in state:
                second.jam(0)
            if "off" in state:
                second.leave()
            found = state.partition(" ")[0]
            with self.subTest(state=state):
                self.refused_and_unchanged(run, [former, second], NotNow, {"found": found}, lambda: run.take(second))
                self.assertEqual(former.within(), [("a", 1), ("a", 2), ("a", 3)])
                self.assertEqual(numbers(to_the_end(run)), [1, 2, 3, 4])

    def test_by_the_same_one_where_it_is_not_ready(self):
        run, printer, came = at_printer(path=3, steps=5)
        run.jam(1)
        self.refused_and_unchanged(run, [printer], NotNow, {"found": "jammed"}, lambda: run.take(printer))
        printer.leave()
        self.refused_and_unchanged(run, [printer], NotNow, {"found": "off"}, lambda: run.take(printer))

    def test_the_first_taking_by_one_that_is_not_ready(self):
        run = run_of()
        printer = full_printer("p1")
        printer.leave()
        self.refused_and_unchanged(run, [printer], NotNow, {"found": "off"}, lambda: run.take(printer))
        printer.come()
        run.take(printer)
        self.assertEqual(run.at(), "p1")

    def test_whole_by_a_taking(self):
        for path in (1, 2, 3, 4):
            run, former, came = at_printer("a anna 4", path, 5)
            second = full_printer("p2", 2)
            kept = picture(second)
            within = former.within()
            self.assertEqual(len(within), path)
            self.assertEqual(run.take(second), within)
            self.is_whole(run)
            self.assertEqual((picture(second), former.within()), (kept, []))
            self.refused_and_unchanged(run, [former, second], Over, {"job": "a"}, lambda: run.take(second))

    def test_whole_by_a_taking_needs_a_ready_printer(self):
        run, former, came = at_printer("a anna 4", 3, 5)
        second = full_printer("p2", 2)
        second.jam(0)
        self.refused_and_unchanged(run, [former, second], NotNow, {"found": "jammed"}, lambda: run.take(second))

    def test_the_former_printer_can_take_another_run(self):
        run, former, came = at_printer(path=3, steps=3)
        run.take(full_printer("p2", 2))
        other = run_of("b anna 2")
        other.take(former)
        self.assertEqual(to_the_end(other), [("b", -1), ("b", 0), ("b", 1)])
        self.assertEqual(numbers(to_the_end(run)), [-1, 2, 3, 4])

    def test_pieces_amid_copies_keep_cover_and_ink(self):
        job = read_job("a anna 3 x2 cover:thick colour:1-1")
        for cut in range(1, 6):
            run = Run(job)
            first = full_printer("p1", 1)
            second = full_printer("p2", 1)
            run.take(first)
            stepped(run, cut + 1)
            run.take(second)
            self.assertEqual(run.out(), cut)
            to_the_end(run)
            fed = list(range(cut, 6))
            covers = len([number for number in fed if number % 3 == 0])
            with self.subTest(cut=cut):
                self.assertEqual(second.paper_left("thick"), 200000 - covers)
                self.assertEqual(second.paper_left("plain"), 200000 - 1 - (len(fed) - covers))
                self.assertEqual(second.ink_left(), (200000 - (len(fed) - covers), 200000 - covers))


class Dropping(RunTest):
    def test_ahead_of_the_first_taking(self):
        run = run_of("a anna 5 x3")
        self.assertEqual(run.drop(), [])
        self.broken(run, (1, 1))

    def test_each_place_of_a_job_of_several_copies(self):
        for path in (1, 2, 3, 4):
            for steps in range(10 + path):
                run, printer, came = at_printer("a anna 5 x3 both", path, steps)
                within = printer.within()
                told = run.drop()
                came.extend(told)
                out = max(0, len(came) - 1)
                with self.subTest(path=path, steps=steps):
                    self.assertEqual(told, within)
                    self.assertIs(type(told), list)
                    self.assertEqual((printer.within(), printer.stands(), run.out()), ([], "ready", out))
                    if out == 9:
                        self.is_whole(run)
                    else:
                        self.broken(run, (out // 3 + 1, out % 3 + 1))

    def test_amid_a_copy_and_between_two(self):
        for out, lack in ((0, (1, 1)), (1, (1, 2)), (4, (1, 5)), (5, (2, 1)), (6, (2, 2)), (9, (2, 5)), (10, (3, 1)),
                          (14, (3, 5))):
            run, printer, came = at_printer("a anna 5 x3", 1, out + 1)
            run.drop()
            self.assertEqual(run.out(), out)
            self.broken(run, lack)

    def test_whole_by_a_drop(self):
        for path in (1, 2, 3, 4):
            run, printer, came = at_printer("a anna 4", path, 5)
            within = printer.within()
            self.assertEqual(run.drop(), within)
            self.is_whole(run)
            self.refused_and_unchanged(run, [printer], Over, {"job": "a"}, run.drop)

    def test_at_a_jammed_and_at_an_absent_printer(self):
        for state in ("jammed", "off", "off jammed"):
            run, printer, came = at_printer("a anna 2 x3", 3, 5)
            if "jammed" in state:
                run.jam(1)
            if "off" in state:
                printer.leave()
            out = 2 if "jammed" in state else 1
            kept = picture(printer)
            with self.subTest(state=state):
                self.assertEqual(run.drop(), [])
                self.assertEqual(picture(printer), kept)
                self.broken(run, (2, 1) if out == 2 else (1, 2))

    def test_the_printer_can_take_another_run_then(self):
        run, printer, came = at_printer(path=3, steps=3)
        run.drop()
        other = run_of("b anna 1")
        other.take(printer)
        self.assertEqual(to_the_end(other), [("b", -1), ("b", 0)])


class Refused(RunTest):
    def test_over_of_a_run_that_is_whole(self):
        for state in ("ready", "jammed", "off"):
            run, printer, came = at_printer("a anna 1", 1, 0)
            to_the_end(run)
            if state == "jammed":
                printer.jam(0)
            if state == "off":
                printer.leave()
            for deed in (run.step, run.drop, lambda: run.jam(0), lambda: run.jam(GREAT), lambda: run.take(printer)):
                self.refused_and_unchanged(run, [printer], Over, {"job": "a"}, deed)

    def test_over_of_a_run_that_is_broken(self):
        for state in ("ready", "jammed", "off"):
            for steps in (0, 1, 3):
                run, printer, came = at_printer("a anna 5", 2, steps)
                run.drop()
                if state == "jammed":
                    printer.jam(0)
                if state == "off":
                    printer.leave()
                for deed in (run.step, run.drop, lambda: run.jam(0), lambda: run.jam(GREAT),
                             lambda: run.take(printer)):
                    self.refused_and_unchanged(run, [printer], Over, {"job": "a"}, deed)

    def test_over_of_a_run_that_was_dropped_untaken(self):
        run = run_of("late anna 5")
        run.drop()
        printer = full_printer()
        for deed in (run.step, run.drop, lambda: run.jam(0), lambda: run.take(printer)):
            self.refused_and_unchanged(run, [printer], Over, {"job": "late"}, deed)

    def test_nowhere(self):
        run = run_of("early anna 5")
        for deed in (run.step, lambda: run.jam(0), lambda: run.jam(GREAT)):
            self.refused_and_unchanged(run, [], Nowhere, {"job": "early"}, deed)

    def test_not_now_of_a_step_and_a_jam(self):
        for state in ("jammed", "off", "off jammed"):
            run, printer, came = at_printer(path=2, steps=3)
            if "jammed" in state:
                run.jam(0)
            if "off" in state:
                printer.leave()
            found = state.partition(" ")[0]
            for deed in (run.step, lambda: run.jam(0), lambda: run.jam(GREAT)):
                self.refused_and_unchanged(run, [printer], NotNow, {"found": found}, deed)

    def test_not_now_of_a_push(self):
        run, printer, came = at_printer("a anna 1", 3, 2)
        self.assertEqual(run.upcoming(), None)
        printer.leave()
        self.assertEqual(run.upcoming(), ("a", -1))
        self.refused_and_unchanged(run, [printer], NotNow, {"found": "off"}, run.step)

    def test_too_much_of_a_jam(self):
        for path in (1, 2, 3, 4):
            for steps in range(7):
                run, printer, came = at_printer(path=path, steps=steps)
                many = len(printer.within())
                for saved in (many + 1, GREAT):
                    self.refused_and_unchanged(run, [printer], TooMuch, {"name": "within"}, lambda: run.jam(saved))

    def test_dry_and_unknown_of_a_step(self):
        line = "a anna 4 both paper:thin cover:thick colour:2-3"
        for papers, ink, found, refusal, name in (
            ({"plain": 9}, (9, 9), -1, Unknown, "thin"),
            ({"thin": 9}, (9, 9), 0, Unknown, "thick"),
            ({"thin": 0, "thick": 9}, (9, 9), -1, Dry, "thin"),
            ({"thin": 1, "thick": 0}, (0, 0), 0, Dry, "thick"),
            ({"thin": 1, "thick": 1}, (0, 0), 0, Dry, "black"),
            ({"thin": 1, "thick": 1}, (1, 0), 0, Dry, "colour"),
            ({"thin": 1, "thick": 1}, (1, 1), 1, Dry, "thin"),
            ({"thin": 2, "thick": 1}, (1, 1), 1, Dry, "black"),
            ({"thin": 2, "thick": 1}, (2, 1), 1, Dry, "colour"),
        ):
            printer = Printer("p1", [], 2, {kind: 10 for kind in papers}, 32, 32)
            for kind, many in papers.items():
                printer.load(kind, many)
            printer.fill(ink[0], ink[1])
            run = run_of(line)
            run.take(printer)
            while run.upcoming() != ("a", found):
                run.step()
            with self.subTest(papers=papers, ink=ink):
                self.refused_and_unchanged(run, [printer], refusal, {"name": name}, run.step)

    def test_not_now_goes_ahead_of_dry_and_unknown(self):
        printer = Printer("p1", [], 2, {"plain": 9}, 32, 32)
        for line in ("a anna 4", "a anna 4 paper:thin"):
            run = run_of(line)
            run.take(printer)
            printer.leave()
            self.refused_and_unchanged(run, [printer], NotNow, {"found": "off"}, run.step)
            printer.come()

    def test_a_dry_printer_lets_the_last_be_pushed(self):
        printer = Printer("p1", [], 2, {"plain": 2}, 32, 32)
        printer.load("plain", 2)
        printer.fill(1, 0)
        run = run_of("a anna 1")
        run.take(printer)
        self.assertEqual(numbers(to_the_end(run)), [-1, 0])


class Model:
    """A run by the document's words: its piece as a list, and how much of that is out or within."""

    def __init__(self, name, total, each):
        self.name = name
        self.total = total
        self.each = each
        self.sheets_out = 0
        self.place = None
        self.piece = []
        self.gone = 0
        self.within = []
        self.over = False

    def begin(self, place):
        self.place = place
        self.piece = [(self.name, -1)] + [(self.name, number) for number in range(self.sheets_out, self.total)]
        self.gone = 0

    def upcoming(self):
        place = self.gone + len(self.within)
        return self.piece[place] if self.place is not None and place < len(self.piece) else None

    def let_out(self, many):
        came = self.within[:many]
        self.within = self.within[many:]
        self.gone += len(came)
        self.sheets_out += len([number for name, number in came if number >= 0])
        if self.sheets_out == self.total:
            self.over = True
            self.place = None
        return came


class Hall:
    """Some printers and runs, with the heap of each printer, and what was lost there."""

    def __init__(self, chance):
        self.chance = chance
        self.printers = [full_printer("p" + str(path), path, many=10 ** 6) for path in (1, 2, 3, 4)]
        self.heaps = {printer.name: [] for printer in self.printers}
        self.lost = {printer.name: 0 for printer in self.printers}
        self.runs = []
        self.models = []
        for line in ("a anna 5 x2 both cover:thick", "b anna 7", "c anna 9 x2 up:2 paper:thin colour:2-8"):
            run = run_of(line)
            self.runs.append(run)
            self.models.append(Model(run.job.name, run.total(), run.each()))

    def model_at(self, printer):
        for model in self.models:
            if model.place == printer.name:
                return model
        return None

    def keep_out(self, place, came):
        self.heaps[place].extend(came)


class LongRows(RunTest):
    def do_step(self, hall, run, model):
        place = model.place
        printer = [one for one in hall.printers if one.name == place]
        if model.over or place is None or printer[0].stands() != "ready":
            return self.do_refused(hall, run, model, run.step)
        tag = model.upcoming()
        if tag is None:
            wanted = model.let_out(1)
        else:
            model.within.append(tag)
            wanted = model.let_out(max(0, len(model.within) - printer[0].path))
        self.assertEqual(run.upcoming(), tag)
        self.assertEqual(run.step(), wanted)
        hall.keep_out(place, wanted)

    def do_refused(self, hall, run, model, deed):
        values = {"job": run.job.name}
        refusal = Over if model.over else Nowhere
        if not model.over and model.place is not None:
            printer = [one for one in hall.printers if one.name == model.place][0]
            refusal = NotNow
            values = {"found": printer.stands()}
        self.refused_and_unchanged(run, hall.printers, refusal, values, deed)

    def do_jam(self, hall, run, model):
        place = model.place
        printer = [one for one in hall.printers if one.name == place]
        saved = hall.chance.randrange(4)
        if model.over or place is None or printer[0].stands() != "ready":
            return self.do_refused(hall, run, model, lambda: run.jam(saved))
        if saved > len(model.within):
            return self.refused_and_unchanged(run, hall.printers, TooMuch, {"name": "within"}, lambda: run.jam(saved))
        lost = model.within[saved:]
        model.within = model.within[:saved]
        wanted = model.let_out(saved)
        self.assertEqual(run.jam(saved), (wanted, lost))
        hall.keep_out(place, wanted)
        hall.lost[place] += len(lost)

    def do_take(self, hall, run, model):
        printer = hall.chance.choice(hall.printers)
        if hall.model_at(printer) not in (None, model):
            return
        if model.over:
            return self.do_refused(hall, run, model, lambda: run.take(printer))
        if printer.stands() != "ready":
            values = {"found": printer.stands()}
            return self.refused_and_unchanged(run, hall.printers, NotNow, values, lambda: run.take(printer))
        place = model.place
        wanted = model.let_out(len(model.within))
        self.assertEqual(run.take(printer), wanted)
        if place is not None:
            hall.keep_out(place, wanted)
        if not model.over:
            model.begin(printer.name)

    def do_drop(self, hall, run, model):
        if model.over:
            return self.do_refused(hall, run, model, run.drop)
        place = model.place
        wanted = model.let_out(len(model.within))
        self.assertEqual(run.drop(), wanted)
        if place is not None:
            hall.keep_out(place, wanted)
        model.over = True
        model.place = None

    def do_move(self, hall):
        printer = hall.chance.choice(hall.printers)
        model = hall.model_at(printer)
        if printer.stands() == "jammed":
            printer.mend() if hall.chance.randrange(2) else printer.leave()
        elif printer.stands() == "off":
            printer.come()
        elif hall.chance.randrange(4) == 0:
            wanted = [] if model is None else model.within
            self.assertEqual(printer.leave(), wanted)
            hall.lost[printer.name] += len(wanted)
            if model is not None:
                model.within = []

    def look(self, hall):
        for run, model in zip(hall.runs, hall.models):
            out = model.sheets_out
            whole = out == model.total
            broken = model.over and not whole
            lack = (out // model.each + 1, out % model.each + 1) if broken else None
            self.assertEqual((run.out(), run.at(), run.whole(), run.lack(), run.upcoming()),
                             (out, model.place, whole, lack, model.upcoming()))
            parts = gathered(hall.heaps, model.name)
            self.assertEqual([number for part in parts for number in part[1]], list(range(out)))
            self.assertEqual(first_lack(hall.heaps, model.name, model.total), None if whole else out)
        for printer in hall.printers:
            model = hall.model_at(printer)
            self.assertEqual(printer.within(), [] if model is None else model.within)
            used = sum([10 ** 6 - printer.paper_left(kind) for kind in printer.papers()])
            self.assertEqual(used, len(hall.heaps[printer.name]) + len(printer.within()) + hall.lost[printer.name])

    def test_against_a_plain_model(self):
        deeds = [self.do_step] * 12 + [self.do_jam] * 2 + [self.do_take] * 2
        for seed in range(120):
            chance = random.Random(seed)
            hall = Hall(chance)
            for number in range(150):
                place = chance.randrange(3)
                with self.subTest(seed=seed, number=number):
                    if chance.randrange(200) == 0:
                        self.do_drop(hall, hall.runs[place], hall.models[place])
                    chance.choice(deeds)(hall, hall.runs[place], hall.models[place])
                    self.do_move(hall)
                    self.look(hall)


if __name__ == "__main__":
    unittest.main()
