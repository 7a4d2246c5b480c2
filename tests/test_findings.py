"""Promises 2, 6, 7, 16, 18 and 19: findings."""

import itertools
import re
import unittest

from evenlead import findings
from evenlead.answers import answers
from evenlead.comparing import is_alike, parting
from evenlead.counting import how_many
from evenlead.errors import LeadError
from evenlead.findings import finding_holds
from evenlead.instep import stepper_of
from evenlead.joining import all_within
from evenlead.leads import is_even, judge, judge_holds, spread
from evenlead.pacers import Pacer
from evenlead.steppers import Stepper
from tests.oracles import texts_of
from tests.test_instep import EVEN, UNEVEN
from tests.test_joining import ALL, EMPTY_TOLD
from tests.test_least import twice, with_useless_steps
from tests.values import MUTE, NONE_TOLD, ODD_VALUES, ONE, ONE_STEPPER, PACERS, SAME, SHIFT, SHIFT_STEPPER, STILL, WIDE

TEXTS = texts_of("ab", 2)
SHIFT_TEXT, SAME_TEXT = str(SHIFT), str(SAME)
SOME_EVEN = [ONE, SHIFT, STILL, *EVEN[-12:]]
# A stepper's text but for its differences: they have no bound.
NO_BOUND = "stepper 1\nends 0\nstep 0 a - 0"

# One right finding of each kind, and more.
RIGHT = (
    ("told", str(ONE), "aa", "bb"),
    ("told", str(WIDE), "aa", "bbbb"),
    ("told", SHIFT_TEXT, "", "a"),
    ("even", str(ONE), ((0, 0, 0), (1, 1, 1))),
    ("even", SHIFT_TEXT, ((0, 0, 0), (1, -1, -1))),
    ("even", SHIFT_TEXT, ((0, -3, 0), (1, -7, 2))),
    ("even", str(MUTE), ()),
    ("uneven", str(WIDE), 0, (), (0,), ()),
    ("uneven", str(WIDE), 0, (0, 0), (0, 0, 0), (0,)),
    ("spread", SHIFT_TEXT, -1, -1),
    ("spread", str(ONE), 0, 0),
    ("alike", str(ONE_STEPPER), "stepper 2\nends 0 1\nstep 0 a b 1\nstep 1 a b 0"),
    ("alike", SAME_TEXT, SAME_TEXT),
    ("parting", str(SHIFT_STEPPER), SAME_TEXT, "", ""),
    ("parting", str(ONE_STEPPER), SAME_TEXT, "a", "a"),
    ("answers", str(SHIFT_STEPPER), "ba", ("aba",)),
    ("answers", SAME_TEXT, "c", ()),
    ("answers", str(all_within("a", "bc", 1)), "a", ("", "b", "bb", "bc", "c", "cb", "cc")),
    ("many", SAME_TEXT, 3, 8),
    ("many", SAME_TEXT, 0, 1),
    ("many", str(SHIFT_STEPPER), 0, 0),
    ("many", SAME_TEXT, 60, 2**60),
)
KINDS = ("told", "even", "uneven", "spread", "alike", "parting", "answers", "many")


def changed_text(text):
    """Texts with a line, a word or a sign more, less or exchanged."""
    lines = text.split("\n")
    yield from ("\n".join(lines[:at] + lines[at + 1 :]) for at in range(len(lines)))
    yield from ("\n".join(lines[:at] + [line] + lines[at:]) for at, line in enumerate(lines))
    yield from ("\n".join(lines[:at] + [line + " 0"] + lines[at + 1 :]) for at, line in enumerate(lines))
    yield from (text[:at] + text[at + 1 :] for at in range(len(text)))
    yield from (text[:at] + sign + text[at + 1 :] for at in range(len(text)) for sign in " -0az\n;A")
    yield from (text + end for end in ("\n", " ", "\n\n", "x", ";"))
    yield from ("\n" + text, " " + text, text.upper(), text.replace("\n", ";"), "", "-")


def holds_plainly(thing):
    """Whether a tuple is a finding that holds, kind by kind, lengths to 60."""
    try:
        match thing:
            case ("told", str(text), str(left), str(right)):
                return bool(re.fullmatch("[a-z]*", left + right)) and Pacer.read(text).tells(left, right)
            case ("even", str(text), bounds):
                return judge_holds(Pacer.read(text), ("leads", bounds))
            case ("uneven", str(text), *ways):
                return judge_holds(Pacer.read(text), ("ring", *ways))
            case ("spread", str(text), low, high):
                pacer = Pacer.read(text)
                return type(low) is type(high) is int and is_even(pacer) and spread(pacer) == (low, high)
            case ("alike", str(text), str(other)):
                return is_alike(Stepper.read(text), Stepper.read(other))
            case ("parting", str(text), str(other), left, right):
                return parting(Stepper.read(text), Stepper.read(other)) == (left, right)
            case ("answers", str(text), str(left), tuple(found)):
                return bool(re.fullmatch("[a-z]*", left)) and answers(Stepper.read(text), left) == found
            case ("many", str(text), length, number):
                stepper, whole = Stepper.read(text), type(length) is type(number) is int
                return whole and 0 <= length <= 60 and how_many(stepper, length) == number
    except LeadError:
        pass
    return False


class RightTest(unittest.TestCase):
    def test_written_out(self):
        for finding in RIGHT:
            self.assertIs(finding_holds(finding), True, finding)
        self.assertEqual({finding[0] for finding in RIGHT}, set(KINDS))

    def test_told(self):
        for pacer in PACERS:
            for left, right in itertools.product(TEXTS, repeat=2):
                self.assertIs(finding_holds(("told", str(pacer), left, right)), pacer.tells(left, right))

    def test_papers(self):
        for pacer in (*EVEN, *UNEVEN):
            kind, *parts = judge(pacer)
            even = is_even(pacer)
            self.assertIs(finding_holds(("even" if even else "uneven", str(pacer), *parts)), True)
            self.assertIs(finding_holds(("uneven" if even else "even", str(pacer), *parts)), False)
            self.assertIs(finding_holds((kind, str(pacer), *parts)), False)

    def test_spread(self):
        for pacer in EVEN:
            found = spread(pacer)
            for low, high in itertools.product(range(-3, 4), repeat=2):
                self.assertIs(finding_holds(("spread", str(pacer), low, high)), (low, high) == found)
        for pacer in UNEVEN[:10]:
            for low, high in itertools.product(range(-2, 3), repeat=2):
                self.assertIs(finding_holds(("spread", str(pacer), low, high)), False)

    def test_spread_of_a_pacer_that_tells_no_pair(self):
        for parts in ((0, 0), (None, None), (None,), ((),), (), (0,), ("", "")):
            self.assertIs(finding_holds(("spread", str(MUTE), *parts)), False)

    def test_alike_and_parting(self):
        for one, other in itertools.product(ALL[:14], repeat=2):
            self.assertIs(finding_holds(("alike", str(one), str(other))), is_alike(one, other))
            pair = parting(one, other)
            for left, right in ((pair or ("", "")), ("a", ""), ("", "b"), ("a", "b")):
                finding = ("parting", str(one), str(other), left, right)
                self.assertIs(finding_holds(finding), (left, right) == pair)
        for stepper in ALL:
            self.assertIs(finding_holds(("alike", str(stepper), str(twice(stepper)))), True)
            self.assertIs(finding_holds(("alike", str(with_useless_steps(stepper)), str(stepper))), True)
            self.assertIs(finding_holds(("parting", str(stepper), str(twice(stepper)), None)), False)

    def test_answers(self):
        for stepper in ALL:
            for left in ("", "a", "ab", "bb", "ac"):
                right = answers(stepper, left)
                self.assertIs(finding_holds(("answers", str(stepper), left, right)), True)
                self.assertIs(finding_holds(("answers", str(stepper), left, (*right, "zz"))), False)
                self.assertIs(finding_holds(("answers", str(stepper), left, list(right))), False)
                for at in range(len(right)):
                    less = right[:at] + right[at + 1 :]
                    again = right[:at] + right[at : at + 1] + right[at:]
                    self.assertIs(finding_holds(("answers", str(stepper), left, less)), False)
                    self.assertIs(finding_holds(("answers", str(stepper), left, again)), False)
                if len(right) > 1:
                    self.assertIs(finding_holds(("answers", str(stepper), left, right[::-1])), False)

    def test_few_of_very_many_answers(self):
        stepper = str(all_within("ab", "abc", 4))
        self.assertIs(finding_holds(("answers", stepper, "ab" * 6, ("a" * 8, "a" * 9))), False)
        self.assertIs(finding_holds(("answers", stepper, "ab" * 6, ())), False)

    def test_many(self):
        for stepper in ALL:
            for length in (0, 1, 2, 5, 60):
                number = how_many(stepper, length)
                for told in (number - 1, number, number + 1, -number, 10**39):
                    self.assertIs(finding_holds(("many", str(stepper), length, told)), told == number)


class OtherwiseTest(unittest.TestCase):
    def test_a_number_more_or_less(self):
        for finding in RIGHT:
            for at, part in enumerate(finding):
                if type(part) is int:
                    for number in (part - 1, part + 1, 10**39, -(10**39)):
                        other = (*finding[:at], number, *finding[at + 1 :])
                        if finding[0] != "many" or at != 2:
                            self.assertIs(finding_holds(other), False, other)
                        else:
                            self.assertIsInstance(finding_holds(other), bool)

    def test_bools_in_the_place_of_integers(self):
        for finding in (
            ("even", str(STILL), ((False, 0, 0),)),
            ("even", str(STILL), ((0, False, 0),)),
            ("even", str(ONE), ((0, 0, 0), (True, 1, 1))),
            ("even", str(ONE), ((0, 0, 0), (1, True, True))),
            ("uneven", str(WIDE), False, (), (0,), ()),
            ("uneven", str(WIDE), 0, (), (False,), ()),
            ("uneven", str(WIDE), 0, (False,), (0,), (False,)),
            ("spread", str(ONE), False, 0),
            ("spread", str(ONE), 0, False),
            ("many", str(ONE_STEPPER), 1, True),
            ("many", str(ONE_STEPPER), True, 1),
            ("many", str(SHIFT_STEPPER), False, 0),
            ("many", str(SHIFT_STEPPER), 0, False),
        ):
            self.assertIs(finding_holds(finding), False, finding)
            integers = self.with_integers(finding)
            self.assertIs(finding_holds(integers), True, integers)

    def with_integers(self, thing):
        if isinstance(thing, tuple):
            return tuple(self.with_integers(part) for part in thing)
        return int(thing) if isinstance(thing, bool) else thing

    def test_parts_left_out_twice_and_exchanged(self):
        for finding in RIGHT:
            for at in range(len(finding)):
                self.assertIs(finding_holds(finding[:at] + finding[at + 1 :]), False)
                self.assertIs(finding_holds(finding[: at + 1] + finding[at:]), False)
            self.assertIs(finding_holds((*finding, None)), False)
            self.assertIs(finding_holds(finding[::-1]), False)
            self.assertIs(finding_holds((finding,)), False)
            for one, other in itertools.combinations(range(len(finding)), 2):
                parts = list(finding)
                parts[one], parts[other] = parts[other], parts[one]
                self.assertIs(finding_holds(tuple(parts)), holds_plainly(tuple(parts)), parts)

    def test_other_kinds(self):
        for finding in RIGHT:
            for kind in (*KINDS, "leads", "ring", "one", "", "Told", "told "):
                if kind != finding[0]:
                    self.assertIs(finding_holds((kind, *finding[1:])), False, (kind, finding))

    def test_lists_in_the_place_of_tuples(self):
        for finding in RIGHT:
            self.assertIs(finding_holds(list(finding)), False)
            for at, part in enumerate(finding):
                self.assertIs(finding_holds((*finding[:at], [part], *finding[at + 1 :])), False)
                if isinstance(part, tuple):
                    self.assertIs(finding_holds((*finding[:at], list(part), *finding[at + 1 :])), False)
        self.assertIs(finding_holds(("even", str(ONE), ([0, 0, 0], (1, 1, 1)))), False)

    def test_values_of_all_kinds(self):
        for thing in ODD_VALUES:
            self.assertIs(finding_holds(thing), False)
            self.assertIs(finding_holds((thing,)), False)
        for finding in RIGHT:
            for at, part in enumerate(finding):
                for thing in ODD_VALUES:
                    other = (*finding[:at], thing, *finding[at + 1 :])
                    self.assertIs(finding_holds(other), holds_plainly(other), other)

    def test_pacers_and_steppers_themselves(self):
        for finding in (
            ("told", ONE, "aa", "bb"),
            ("spread", SHIFT, -1, -1),
            ("alike", SAME, SAME),
            ("alike", SAME_TEXT, SAME),
            ("answers", SAME, "a", ("a",)),
            ("many", SAME, 3, 8),
            ("many", (SAME_TEXT,), 3, 8),
        ):
            self.assertIs(finding_holds(finding), False)

    def test_texts_with_a_line_a_word_or_a_sign_otherwise(self):
        for text in changed_text(SHIFT_TEXT):
            self.agrees(("told", text, "ab", "aab"))
            self.agrees(("even", text, ((0, 0, 0), (1, -1, -1))))
            self.agrees(("spread", text, -1, -1))
        for text in changed_text(str(SHIFT_STEPPER)):
            self.agrees(("alike", text, str(SHIFT_STEPPER)))
            self.agrees(("alike", str(SHIFT_STEPPER), text))
            self.agrees(("parting", text, SAME_TEXT, "", ""))
            self.agrees(("answers", text, "ba", ("aba",)))
            self.agrees(("many", text, 3, 4))
        for text in changed_text(str(WIDE)):
            self.agrees(("uneven", text, 0, (), (0,), ()))

    def agrees(self, finding):
        self.assertIs(finding_holds(finding), holds_plainly(finding), finding)

    def test_a_stepper_whose_differences_have_no_bound_is_none(self):
        for finding in (
            ("alike", NO_BOUND, NO_BOUND),
            ("alike", SAME_TEXT, NO_BOUND),
            ("parting", NO_BOUND, str(NONE_TOLD), "", ""),
            ("parting", str(NONE_TOLD), NO_BOUND, "", ""),
            ("answers", NO_BOUND, "", ("",)),
            ("answers", NO_BOUND, "b", ()),
            ("many", NO_BOUND, 1, 1),
        ):
            self.assertIs(finding_holds(finding), False)
        self.assertIs(finding_holds(("parting", str(EMPTY_TOLD), str(NONE_TOLD), "", "")), True)

    def test_texts_of_the_other_machine(self):
        self.assertIs(finding_holds(("told", SAME_TEXT, "a", "a")), False)
        self.assertIs(finding_holds(("many", SHIFT_TEXT, 1, 1)), False)
        self.assertIs(finding_holds(("alike", SHIFT_TEXT, SHIFT_TEXT)), False)

    def test_very_great_lengths(self):
        for length in (10**39, -(10**39), -1):
            for number in (0, 1, 10**39):
                self.assertIs(finding_holds(("many", SAME_TEXT, length, number)), False)
        self.assertIs(finding_holds(("many", str(ONE_STEPPER), 61, 1)), True)


class InterfaceTest(unittest.TestCase):
    def test_again_and_nothing_changes(self):
        for pacer in SOME_EVEN:
            low_and_high = spread(pacer) or (0, 0)
            bounds = [judge(pacer)[1], ["a"]]
            finding = ("spread", str(pacer), *low_and_high)
            self.assertIs(finding_holds(finding), finding_holds(finding))
            finding_holds(("even", str(pacer), bounds))
            self.assertEqual(bounds, [judge(pacer)[1], ["a"]])

    def test_pacers_and_their_steppers(self):
        for pacer in SOME_EVEN:
            stepper = stepper_of(pacer)
            for left, right in itertools.product(TEXTS, repeat=2):
                told = finding_holds(("told", str(pacer), left, right))
                self.assertIs(told, right in answers(stepper, left))
                self.assertIs(finding_holds(("answers", str(stepper), left, answers(stepper, left))), True)

    def test_by_name(self):
        self.assertIs(finding_holds(thing=RIGHT[0]), True)
        self.assertIs(finding_holds(thing=None), False)

    def test_defined_in_its_file(self):
        self.assertEqual(finding_holds.__module__, "evenlead.findings")
        self.assertIs(findings.finding_holds, finding_holds)
