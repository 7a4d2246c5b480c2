"""The errors that this package raises."""


class LeadError(Exception):
    """The base class of all errors of this package."""


class BadPacer(LeadError):
    """A part of what was to be a pacer is not as described."""

    def __init__(self, part):
        self.part = part


class BadStepper(LeadError):
    """A part of what was to be a stepper is not as described."""

    def __init__(self, part):
        self.part = part


class BadText(LeadError):
    """A line of what was to be the text of a pacer or stepper is not as described."""

    def __init__(self, line):
        self.line = line


class Uneven(LeadError):
    """A pacer is uneven, as the paper shows."""

    def __init__(self, paper):
        self.paper = paper


class NotTold(LeadError):
    """A pair is not told."""

    def __init__(self, pair):
        self.pair = pair


class BadLetter(LeadError):
    """A value is no letter from a to z."""

    def __init__(self, thing):
        self.thing = thing


class NothingToUndo(LeadError):
    """There is nothing that could be taken back."""


class InvalidCommand(LeadError):
    """A value is no command of a console."""
