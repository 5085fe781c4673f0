"""What several tests share: refusals looked at closely, and printers with all they need."""

import unittest

from spoolhall.printers import Printer

GREAT = 10 ** 59


class HallTest(unittest.TestCase):
    def refused(self, refusal, values, deed):
        """The deed is refused with just this class and just these values."""
        with self.assertRaises(refusal) as caught:
            deed()
        self.assertIs(type(caught.exception), refusal)
        self.assertEqual(vars(caught.exception), values)


def full_printer(name="p1", path=2, can=("both", "colour", "staple"), kinds=("plain", "thick", "thin"), many=200000):
    """A printer that has so much of each kind of paper and of both inks."""
    printer = Printer(name, list(can), path, dict.fromkeys(kinds, many), many, many)
    for kind in kinds:
        printer.load(kind, many)
    printer.fill(many, many)
    return printer


def picture(printer):
    """All that can be asked of a printer."""
    left = {kind: printer.paper_left(kind) for kind in printer.papers()}
    return (printer.name, printer.can, printer.path, printer.stands(), printer.papers(), list(printer.papers()), left,
            printer.ink_left(), printer.within())
