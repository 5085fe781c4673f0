"""A printer's states, and what leads from one to another."""

from spoolhall.errors import NotNow

READY = "ready"
JAMMED = "jammed"
OFF = "off"


class State:
    """A state by its word: it lets nothing but what the classes under it tell."""

    def __init__(self, word):
        self.word = word

    def called(self):
        """The state's word."""
        return self.word

    def jam(self):
        """The state behind a jam."""
        raise NotNow(self.word)

    def mend(self):
        """The state behind mending."""
        raise NotNow(self.word)

    def leave(self):
        """The state behind leaving."""
        raise NotNow(self.word)

    def come(self):
        """The state behind coming back."""
        raise NotNow(self.word)


class Ready(State):
    """It can be fed."""

    def __init__(self):
        State.__init__(self, READY)

    def jam(self):
        return Jammed()

    def leave(self):
        return Away(False)


class Jammed(State):
    """It wants mending."""

    def __init__(self):
        State.__init__(self, JAMMED)

    def mend(self):
        return Ready()

    def leave(self):
        return Away(True)


class Away(State):
    """It is off; jammed tells what it was when it left."""

    def __init__(self, jammed):
        State.__init__(self, OFF)
        self.jammed = jammed

    def come(self):
        return Jammed() if self.jammed else Ready()
