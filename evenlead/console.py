"""A console: commands in one line that change a stepper, and ask what it tells."""

from evenlead.answers import answers
from evenlead.counting import how_many, pair_at
from evenlead.errors import BadText, InvalidCommand, NothingToUndo, Uneven
from evenlead.instep import stepper_of
from evenlead.joining import both, either, turned, without
from evenlead.pacers import Pacer
from evenlead.parts import number_of, text_of, word_of
from evenlead.steppers import Stepper

MOST_LENGTH = 60
NONE = "none"


def joined(head, kept, stepper):
    """What is kept behind a command with the text of a pacer, of what was kept and the stepper of this pacer."""
    if head == "join":
        return either(kept, stepper)
    if head == "cut":
        return both(kept, stepper)
    if head == "less":
        return without(kept, stepper)
    return stepper


def yes_or_no(kept, words):
    """Whether a pair is told."""
    left, right = texts_of(words, 2)
    return "yes" if kept.tells(left, right) else "no"


def told_answers(kept, words):
    """The answers of a text."""
    left = texts_of(words, 1)[0]
    return " ".join([word_of(right) for right in answers(kept, left)]) or NONE


def first_told(kept, words):
    """The first pair that is told."""
    texts_of(words, 0)
    pair = pair_at(kept, 0)
    return NONE if pair is None else " ".join([word_of(text) for text in pair])


def many_told(kept, words):
    """How many told pairs have a length."""
    length = number_of(words[0]) if len(words) == 1 else None
    if length is None or length > MOST_LENGTH:
        raise InvalidCommand()
    return str(how_many(kept, length))


JOINS = ("keep", "join", "cut", "less")
QUESTIONS = {"is": yes_or_no, "answers": told_answers, "first": first_told, "many": many_told}


class Console:
    """A console that keeps a stepper, at first the one that tells nothing."""

    def __init__(self):
        self.kept = Stepper(((),), ())
        self.earlier = []

    def run(self, command):
        """The answer to a command; raises InvalidCommand, or NothingToUndo."""
        if not isinstance(command, str) or "\n" in command:
            raise InvalidCommand()
        head, *words = command.split(" ")
        if head in JOINS:
            return self.join_pacer(head, " ".join(words))
        if head in QUESTIONS:
            question = QUESTIONS[head]
            return question(self.kept, words)
        if command == "turn":
            return self.keep(turned(self.kept))
        if command == "undo":
            return self.undo()
        raise InvalidCommand()

    def join_pacer(self, head, text):
        """Keeps what a command makes of what was kept and of the stepper of a pacer, if this is even."""
        try:
            stepper = stepper_of(Pacer.read(text.replace(";", "\n")))
        except BadText:
            raise InvalidCommand() from None
        except Uneven:
            return "uneven"
        return self.keep(joined(head, self.kept, stepper))

    def keep(self, stepper):
        """Keeps a stepper from now on; its number of states."""
        self.earlier.append(self.kept)
        self.kept = stepper
        return str(len(stepper))

    def undo(self):
        """Keeps what was kept ahead of the last change that is not taken back yet; its number of states."""
        if not self.earlier:
            raise NothingToUndo()
        self.kept = self.earlier.pop()
        return str(len(self.kept))


def texts_of(words, many):
    """The texts for which so many words stand."""
    texts = [text_of(word) for word in words]
    if len(texts) != many or None in texts:
        raise InvalidCommand()
    return texts
