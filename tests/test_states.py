"""A printer's states and what leads from one to another (point 14)."""

import unittest

from spoolhall.errors import NotNow
from spoolhall.states import Away, Jammed, Ready, State

DEEDS = ("jam", "mend", "leave", "come")

# A state's word, how it is made, and of each deed that it lets the word of what comes of it.
STATES = (
    ("ready", lambda: Ready(), {"jam": "jammed", "leave": "off"}),
    ("jammed", lambda: Jammed(), {"mend": "ready", "leave": "off"}),
    ("off", lambda: Away(False), {"come": "ready"}),
    ("off", lambda: Away(True), {"come": "jammed"}),
)
CLASSES = {"ready": Ready, "jammed": Jammed, "off": Away}


def do(state, deed):
    return getattr(state, deed)()


class Classes(unittest.TestCase):
    def test_each_stands_under_state_and_none_under_another(self):
        kinds = (Ready, Jammed, Away)
        for first in kinds:
            self.assertTrue(issubclass(first, State))
            self.assertFalse(issubclass(State, first))
            for second in kinds:
                if first is not second:
                    self.assertFalse(issubclass(first, second))

    def test_the_words(self):
        self.assertEqual(Ready().called(), "ready")
        self.assertEqual(Jammed().called(), "jammed")
        self.assertEqual(Away(True).called(), "off")
        self.assertEqual(Away(False).called(), "off")


class Deeds(unittest.TestCase):
    def test_every_deed_that_is_let(self):
        for word, make, lets in STATES:
            for deed, wanted in lets.items():
                with self.subTest(state=word, deed=deed):
                    told = do(make(), deed)
                    self.assertIs(type(told), CLASSES[wanted])
                    self.assertEqual(told.called(), wanted)

    def test_every_deed_that_is_refused_tells_the_word(self):
        for word, make, lets in STATES:
            for deed in DEEDS:
                if deed not in lets:
                    with self.subTest(state=word, deed=deed):
                        with self.assertRaises(NotNow) as caught:
                            do(make(), deed)
                        self.assertEqual(caught.exception.found, word)

    def test_coming_back_to_what_it_was(self):
        self.assertEqual(Ready().leave().come().called(), "ready")
        self.assertEqual(Jammed().leave().come().called(), "jammed")
        self.assertEqual(Ready().jam().leave().come().called(), "jammed")
        self.assertEqual(Ready().jam().mend().leave().come().called(), "ready")
        self.assertEqual(Ready().leave().come().jam().leave().come().mend().called(), "ready")

    def test_rows_of_deeds_against_a_table(self):
        table = {
            ("ready", "jam"): "jammed", ("ready", "leave"): "off ready", ("jammed", "mend"): "ready",
            ("jammed", "leave"): "off jammed", ("off ready", "come"): "ready", ("off jammed", "come"): "jammed",
        }
        rows = [(Ready(), "ready")]
        for length in range(6):
            further = []
            for state, mark in rows:
                for deed in DEEDS:
                    if (mark, deed) in table:
                        further.append((do(state, deed), table[(mark, deed)]))
                    else:
                        with self.assertRaises(NotNow) as caught:
                            do(state, deed)
                        self.assertEqual(caught.exception.found, mark.partition(" ")[0])
            rows = further
            for state, mark in rows:
                self.assertEqual(state.called(), mark.partition(" ")[0])


class NeverChanges(unittest.TestCase):
    def test_the_state_that_was_asked_stays(self):
        for word, make, lets in STATES:
            for deed in DEEDS:
                state = make()
                kept = dict(vars(state))
                for again in range(2):
                    try:
                        told = do(state, deed)
                    except NotNow:
                        self.assertNotIn(deed, lets)
                    else:
                        self.assertIsNot(told, state)
                        self.assertEqual(told.called(), lets[deed])
                    with self.subTest(state=word, deed=deed):
                        self.assertEqual(state.called(), word)
                        self.assertEqual(vars(state), kept)

    def test_deeds_of_what_was_told_leave_it_too(self):
        ready = Ready()
        jammed = ready.jam()
        away = jammed.leave()
        away.come().mend()
        self.assertEqual([ready.called(), jammed.called(), away.called()], ["ready", "jammed", "off"])
        self.assertEqual(away.come().called(), "jammed")


if __name__ == "__main__":
    unittest.main()
