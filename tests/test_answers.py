"""Promises 12, 18 and 19: the answers of texts, and which texts have two."""

import itertools
import unittest

from evenlead import answers as module
from evenlead.answers import answers, has_one_answer, is_one_to_one, two_answers
from evenlead.instep import stepper_of
from evenlead.joining import all_within, behind, either, through, turned, without
from evenlead.steppers import Stepper, least
from tests.oracles import texts_of, told_pairs
from tests.test_joining import ALL, EMPTY_TOLD, FARTHEST, MISLEADING
from tests.test_least import twice, with_useless_steps
from tests.values import NONE_TOLD, ONE_STEPPER, SAME, SHIFT, SHIFT_STEPPER

MOST = 4
TEXTS = texts_of("ab", MOST)
# Letters that no step has, too.
OTHER_TEXTS = ("c", "z", "ac", "cb", "aca", "zzz")

# Rings of gaps on either side that lead to no end, beside ("a", "a").
RINGS_OF_GAPS = Stepper(((("-", "a", 1), ("a", "-", 2), ("a", "a", 3)), (("-", "a", 1),), (("a", "-", 2),), ()), (3,))


def answers_by_text(stepper):
    """All answers of short texts, from the definition."""
    found = {}
    for left, right in told_pairs(stepper, MOST, MOST + FARTHEST):
        found.setdefault(left, []).append(right)
    return {left: tuple(sorted(found.get(left, ()))) for left in TEXTS}


ANSWERS = [answers_by_text(stepper) for stepper in ALL]


class AnswersTest(unittest.TestCase):
    def test_against_the_definition(self):
        for stepper, found in zip(ALL, ANSWERS):
            for left in TEXTS:
                result = answers(stepper, left)
                self.assertEqual(result, found[left], (str(stepper), left))
                self.assertIsInstance(result, tuple)

    def test_none_one_and_several_came_up(self):
        sizes = {min(len(right), 3) for found in ANSWERS for right in found.values()}
        self.assertEqual(sizes, {0, 1, 2, 3})

    def test_letters_that_no_step_has(self):
        for stepper in ALL:
            for left in OTHER_TEXTS:
                self.assertEqual(answers(stepper, left), ())

    def test_examples(self):
        self.assertEqual(answers(stepper_of(SHIFT), "ba"), ("aba",))
        self.assertEqual(answers(stepper_of(SHIFT), ""), ("a",))
        self.assertEqual(answers(SAME, "abba"), ("abba",))
        self.assertEqual(answers(ONE_STEPPER, "b"), ())
        self.assertEqual(answers(NONE_TOLD, ""), ())
        self.assertEqual(answers(EMPTY_TOLD, ""), ("",))

    def test_sorted_as_python_sorts(self):
        within = all_within("x", "ab", 1)
        self.assertEqual(answers(within, "x"), ("", "a", "aa", "ab", "b", "ba", "bb"))
        for most, left in itertools.product(range(5), ("", "x", "xx", "xxx")):
            right = [text for text in texts_of("ab", 7) if abs(len(text) - len(left)) <= most]
            self.assertEqual(answers(all_within("x", "ab", most), left), tuple(sorted(right)))

    def test_four_letters_longer_and_shorter(self):
        longer = behind(SAME, Stepper((*((("-", "b", at + 1),) for at in range(4)), ()), (4,)))
        for left in texts_of("ab", 5):
            self.assertEqual(answers(longer, left), (left + "bbbb",))
            self.assertEqual(answers(turned(longer), left), (left[:-4],) if left[-4:] == "bbbb" else ())
        either_way = either(longer, turned(longer))
        self.assertEqual(answers(either_way, "abbbb"), ("a", "abbbbbbbb"))
        self.assertEqual(answers(either_way, "bbbbb"), ("b", "bbbbbbbbb"))

    def test_rings_of_gaps_that_lead_to_no_end(self):
        self.assertEqual(answers(RINGS_OF_GAPS, "a"), ("a",))
        self.assertEqual(answers(RINGS_OF_GAPS, ""), ())
        self.assertEqual(answers(RINGS_OF_GAPS, "aa"), ())
        self.assertIs(has_one_answer(RINGS_OF_GAPS), True)
        self.assertIs(is_one_to_one(RINGS_OF_GAPS), True)
        self.assertIsNone(two_answers(RINGS_OF_GAPS))

    def test_steps_that_no_row_uses(self):
        self.assertEqual(answers(MISLEADING, "a"), ("",))
        self.assertEqual(answers(MISLEADING, "aaa"), ("aa",))
        self.assertEqual(answers(MISLEADING, "ab"), ())
        self.assertIs(is_one_to_one(MISLEADING), True)

    def test_long_texts(self):
        left = "abbabaabbaba"
        self.assertEqual(answers(SHIFT_STEPPER, left), ("a" + left,))
        self.assertEqual(answers(SHIFT_STEPPER, left * 50), ("a" + left * 50,))
        self.assertEqual(len(answers(all_within("ab", "ab", 0), left)), 2**12)

    def test_one_of_very_many_beginnings_leads_to_an_end(self):
        rows = [(("a", "b", at), ("a", "c", at + 1)) for at in range(40)]
        stepper = Stepper((*rows, (("b", "b", 41),), ()), (41,))
        self.assertEqual(answers(stepper, "a" * 40 + "b"), ("c" * 40 + "b",))
        self.assertEqual(answers(stepper, "a" * 39 + "b"), ())
        self.assertEqual(two_answers(stepper), ("a" * 41 + "b", "b" + "c" * 40 + "b", "cb" + "c" * 39 + "b"))

    def test_told_pairs_are_those_of_answers(self):
        for stepper in ALL:
            for left, right in told_pairs(stepper, 3, 3):
                self.assertIn(right, answers(stepper, left))
                self.assertIn(left, answers(turned(stepper), right))


class OneAnswerTest(unittest.TestCase):
    def test_against_all_short_texts(self):
        for stepper, found in zip(ALL, ANSWERS):
            result = two_answers(stepper)
            doubled = sorted((left for left in TEXTS if len(found[left]) > 1), key=lambda left: (len(left), left))
            if doubled:
                self.assertEqual(result, (doubled[0], *found[doubled[0]][:2]), str(stepper))
            elif result is not None:
                left, *right = result
                self.assertGreater(len(left), MOST)
                self.assertEqual(answers(stepper, left)[:2], tuple(right))

    def test_one_answer_exactly_if_there_are_not_two(self):
        for stepper in ALL:
            one = two_answers(stepper) is None
            other = two_answers(turned(stepper)) is None
            self.assertIs(has_one_answer(stepper), one)
            self.assertIs(is_one_to_one(stepper), one and other)
            self.assertIs(is_one_to_one(turned(stepper)), one and other)

    def test_by_the_pairs_of_answers_of_one_text(self):
        # No text has two answers exactly if each right text stands beside itself alone, by way of its left one.
        for stepper in ALL:
            right = turned(stepper)
            beside = through(right, stepper)
            self.assertIs(has_one_answer(stepper), without(beside, SAME) == NONE_TOLD)

    def test_both_kinds_came_up(self):
        kinds = {(has_one_answer(stepper), is_one_to_one(stepper)) for stepper in ALL}
        self.assertEqual(kinds, {(True, True), (True, False), (False, False)})

    def test_written_out(self):
        for stepper in (SAME, SHIFT_STEPPER, ONE_STEPPER, NONE_TOLD, EMPTY_TOLD):
            self.assertIs(has_one_answer(stepper), True)
            self.assertIs(is_one_to_one(stepper), True)
            self.assertIsNone(two_answers(stepper))
        many_to_one = all_within("ab", "c", 0)
        self.assertIs(has_one_answer(many_to_one), True)
        self.assertIs(is_one_to_one(many_to_one), False)
        self.assertIs(has_one_answer(turned(many_to_one)), False)
        self.assertIs(is_one_to_one(turned(many_to_one)), False)


class TwoAnswersTest(unittest.TestCase):
    def test_examples(self):
        self.assertEqual(two_answers(all_within("a", "bc", 0)), ("a", "b", "c"))

    def test_of_the_empty_text(self):
        self.assertEqual(two_answers(all_within("", "c", 1)), ("", "", "c"))
        self.assertEqual(two_answers(all_within("a", "c", 2)), ("", "", "c"))
        two = Stepper(((("-", "b", 1), ("-", "c", 1)), (("-", "a", 2),), ()), (2,))
        self.assertEqual(two_answers(two), ("", "ba", "ca"))
        ahead = Stepper(((("-", "b", 1),), (("-", "a", 2),), ()), (1, 2))
        self.assertEqual(two_answers(ahead), ("", "b", "ba"))

    def test_answers_of_unlike_lengths(self):
        shorter = Stepper(((("a", "-", 1), ("a", "b", 2)), (), (("b", "-", 1),)), (1, 2))
        self.assertEqual(two_answers(shorter), ("a", "", "b"))
        shorter = Stepper(((("a", "-", 1), ("a", "b", 2)), (("b", "-", 3),), (("b", "b", 3),), ()), (3,))
        self.assertEqual(two_answers(shorter), ("ab", "", "bb"))
        # One answer is over before the other one begins to differ.
        longer = Stepper(((("a", "b", 1),), (("-", "a", 2), ("b", "-", 2)), ()), (1, 2))
        self.assertEqual(two_answers(longer), ("a", "b", "ba"))

    def test_the_first_text(self):
        # A shorter one first, though its letters stand behind in the alphabet.
        one = Stepper(((("a", "a", 1), ("b", "a", 2), ("b", "b", 2)), (("a", "a", 2), ("a", "b", 2)), ()), (2,))
        self.assertEqual(two_answers(one), ("b", "a", "b"))
        # Of one length, sorted: the one with more answers comes later.
        two = Stepper(
            ((("a", "z", 1), ("b", "a", 1)), (("b", "y", 2), ("b", "z", 2), ("c", "a", 2), ("c", "b", 2)), ()), (2,)
        )
        self.assertEqual(two_answers(two), ("ab", "zy", "zz"))
        # Rows that begin with letters that lead to another first text.
        three = Stepper(
            ((("a", "a", 1), ("a", "b", 2)), (("b", "a", 3), ("c", "b", 3)), (("c", "a", 3),), (("z", "z", 3),)), (3,)
        )
        self.assertEqual(two_answers(three), ("ac", "ab", "ba"))

    def test_the_first_two_of_many(self):
        many = all_within("a", "bcd", 0)
        longer = behind(Stepper(((("x", "c", 1), ("x", "d", 1)), ()), (1,)), many)
        self.assertEqual(two_answers(longer), ("x", "c", "d"))
        # All twelve letters leave three ways open, and only the last one tells which lead to an end.
        rows = [tuple(("a", right, at + 1) for right in "bcd") for at in range(11)]
        stepper = Stepper((*rows, (("b", "b", 12),), ()), (12,))
        self.assertEqual(two_answers(stepper), ("a" * 11 + "b", "b" * 12, "b" * 10 + "cb"))

    def test_a_first_text_that_is_long(self):
        # The answers part at once, and it takes both rings to bring them to an end together.
        rows = [(("a", "b", 1), ("a", "c", 6))]
        rows += [(("a", "b", at % 5 + 1),) for at in range(1, 6)]
        rows += [(("a", "b", (at - 5) % 6 + 6),) for at in range(6, 12)]
        stepper = Stepper(tuple(rows), (1, 7))
        left, first, second = two_answers(stepper)
        self.assertEqual(left, "a" * 26)
        self.assertEqual((first, second), ("b" * 26, "c" + "b" * 25))
        self.assertEqual(answers(stepper, left), (first, second))
        self.assertTrue(all(len(answers(stepper, left[:many])) < 2 for many in range(26)))

    def test_put_otherwise(self):
        for stepper in ALL:
            for other in (least(stepper), twice(stepper), with_useless_steps(stepper)):
                self.assertEqual(two_answers(other), two_answers(stepper))
                self.assertIs(has_one_answer(other), has_one_answer(stepper))
                self.assertIs(is_one_to_one(other), is_one_to_one(stepper))
                self.assertEqual(answers(other, "ab"), answers(stepper, "ab"))


class InterfaceTest(unittest.TestCase):
    def test_again_and_nothing_changes(self):
        for stepper in ALL:
            before = (stepper.rows, stepper.ends)
            self.assertEqual(answers(stepper, "ab"), answers(stepper, "ab"))
            for function in (has_one_answer, is_one_to_one, two_answers):
                self.assertEqual(function(stepper), function(stepper))
            self.assertEqual((stepper.rows, stepper.ends), before)

    def test_by_name(self):
        self.assertEqual(answers(left="ba", stepper=SHIFT_STEPPER), ("aba",))
        self.assertIs(has_one_answer(stepper=SAME), True)
        self.assertIs(is_one_to_one(stepper=SAME), True)
        self.assertIsNone(two_answers(stepper=SAME))

    def test_defined_in_their_file(self):
        for function in (answers, has_one_answer, is_one_to_one, two_answers):
            self.assertEqual(function.__module__, "evenlead.answers")
            self.assertIs(getattr(module, function.__name__), function)
