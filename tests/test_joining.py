"""Promises 3, 9, 10, 18 and 19: the least steppers of joined pairs."""

import itertools
import unittest

from evenlead import joining
from evenlead.instep import pacer_of, stepper_of
from evenlead.joining import all_within, backward, behind, both, either, same_left, through, turned, without
from evenlead.leads import spread
from evenlead.steppers import Stepper, least
from tests.oracles import drawn_gapped_steppers, drawn_steppers, is_least, texts_of, told_pairs
from tests.test_least import twice, with_useless_steps
from tests.values import MUTE, NONE_TOLD, ONE, ONE_STEPPER, SAME, SHIFT_STEPPER, STEPPERS, STILL

MOST = 3
# No drawn stepper has differences beyond this.
FARTHEST = 4
TEXTS = texts_of("ab", MOST)
PAIRS = [(left, right) for left in TEXTS for right in TEXTS]

# Tells the pair of two empty texts alone.
EMPTY_TOLD = Stepper(((),), (0,))
# Steps that no row uses: they lead other tuples of signs to an end, or lead there on no row at all.
MISLEADING = Stepper(
    (
        (("-", "a", 1), ("a", "-", 2), ("a", "a", 0), ("b", "b", 3)),
        (("-", "b", 1), ("a", "-", 2), ("b", "b", 0)),
        (("-", "a", 1), ("a", "a", 2), ("b", "-", 3)),
        (("-", "b", 3),),
    ),
    (2,),
)
LEFT_LONGER = Stepper(((("a", "-", 1), ("a", "b", 0), ("b", "-", 1), ("b", "a", 0)), (("a", "-", 2),), ()), (1, 2))
RIGHT_LONGER = Stepper(((("-", "a", 1), ("a", "a", 0), ("b", "b", 0)), (("-", "b", 2),), ()), (2,))
BOTH_LONGER = Stepper(
    ((("-", "a", 1), ("a", "-", 2), ("a", "a", 0), ("b", "b", 0)), (), (("b", "-", 3),), ()), (1, 3)
)
# Each text of three letters or more and this text.
SAME_OF_THREE = Stepper(tuple((("a", "a", at), ("b", "b", at)) for at in (1, 2, 3, 3)), (3,))
WRITTEN_OUT = (*STEPPERS, EMPTY_TOLD, MISLEADING, LEFT_LONGER, RIGHT_LONGER, BOTH_LONGER)
GAPPED = drawn_gapped_steppers(80)
DRAWN = [
    stepper for stepper in drawn_steppers(60) if max(map(abs, spread(pacer_of(stepper)) or (0,))) <= FARTHEST
]
ALL = [*WRITTEN_OUT, *DRAWN, *GAPPED]
# Each one beside itself, beside the written out ones, and beside a few others.
COUPLES = [
    *zip(ALL, ALL),
    *itertools.product(WRITTEN_OUT, repeat=2),
    *zip(ALL, ALL[7:] + ALL[:7]),
    *zip(GAPPED, DRAWN),
]
ONE_BY_ONE = (turned, backward, same_left)
TWO_BY_TWO = (both, either, without, behind, through)


def short(stepper):
    """The told pairs of short texts."""
    return told_pairs(stepper, MOST, MOST)


class JoiningTest(unittest.TestCase):
    def holds(self, result, pairs, *steppers):
        """Whether the result is the least stepper that tells just these pairs, of all pairs of short texts."""
        case = [str(stepper) for stepper in steppers]
        self.assertIsInstance(result, Stepper)
        self.assertEqual(short(result), pairs, case)
        self.assertEqual({pair for pair in (*PAIRS, *pairs) if result.tells(*pair)}, pairs, case)
        self.assertTrue(is_least(result), case)


class DefinitionTest(JoiningTest):
    def test_both_either_without(self):
        for one, other in COUPLES:
            first, second = short(one), short(other)
            self.holds(both(one, other), first & second, one, other)
            self.holds(either(one, other), first | second, one, other)
            self.holds(without(one, other), first - second, one, other)

    def test_turned(self):
        for stepper in ALL:
            self.holds(turned(stepper), {(right, left) for left, right in short(stepper)}, stepper)

    def test_backward(self):
        for stepper in ALL:
            self.holds(backward(stepper), {(left[::-1], right[::-1]) for left, right in short(stepper)}, stepper)

    def test_behind(self):
        for one, other in COUPLES:
            pairs = {
                (left + word, right + beside)
                for left, right in short(one)
                for word, beside in short(other)
                if len(left + word) <= MOST and len(right + beside) <= MOST
            }
            self.holds(behind(one, other), pairs, one, other)

    def test_through(self):
        for one, other in COUPLES:
            reached = {}
            for between, right in told_pairs(other, MOST + FARTHEST, MOST):
                reached.setdefault(between, []).append(right)
            pairs = {
                (left, right)
                for left, between in told_pairs(one, MOST, MOST + FARTHEST)
                for right in reached.get(between, ())
            }
            self.holds(through(one, other), pairs, one, other)

    def test_same_left(self):
        for stepper in ALL:
            pairs = {(left, left) for left, _ in told_pairs(stepper, MOST, MOST + FARTHEST)}
            self.holds(same_left(stepper), pairs, stepper)

    def test_all_within(self):
        for letters, others in itertools.product(("", "a", "b", "ab", "bc", "abc"), repeat=2):
            for most in range(5):
                result = all_within(letters, others, most)
                many = 5 if len(letters + others) < 3 else 3
                pairs = {
                    (left, right)
                    for left in texts_of(letters, many)
                    for right in texts_of(others, many)
                    if -most <= len(left) - len(right) <= most
                }
                self.assertEqual(told_pairs(result, many, many), pairs)
                self.assertTrue(is_least(result))

    def test_drawn_steppers_are_of_all_kinds(self):
        spreads = [spread(pacer_of(stepper)) for stepper in ALL]
        told = [least_and_greatest for least_and_greatest in spreads if least_and_greatest]
        self.assertTrue(any(low < 0 == high for low, high in told) and any(low == 0 < high for low, high in told))
        self.assertGreater(sum(low < 0 < high for low, high in told), 10)
        self.assertTrue(any(low > 0 for low, high in told) and any(high < 0 for low, high in told))


class WrittenOutTest(JoiningTest):
    def test_example(self):
        self.assertEqual(all_within("a", "b", 0), stepper_of(ONE))

    def test_with_itself(self):
        for stepper in ALL:
            self.assertEqual(both(stepper, stepper), least(stepper))
            self.assertEqual(either(stepper, stepper), least(stepper))
            self.assertEqual(without(stepper, stepper), NONE_TOLD)

    def test_nothing_is_told(self):
        for stepper in ALL:
            for nothing in (NONE_TOLD, Stepper(((("a", "a", 1),), (("-", "b", 1),)), ())):
                for result in (
                    both(stepper, nothing),
                    both(nothing, stepper),
                    without(nothing, stepper),
                    behind(stepper, nothing),
                    behind(nothing, stepper),
                    through(stepper, nothing),
                    through(nothing, stepper),
                    turned(nothing),
                    backward(nothing),
                    same_left(nothing),
                ):
                    self.assertEqual((result.rows, result.ends), (((),), ()))
                for result in (either(stepper, nothing), either(nothing, stepper), without(stepper, nothing)):
                    self.assertEqual(result, least(stepper))

    def test_the_pair_of_two_empty_texts(self):
        for stepper in ALL:
            self.assertEqual(behind(stepper, EMPTY_TOLD), least(stepper))
            self.assertEqual(behind(EMPTY_TOLD, stepper), least(stepper))
            self.assertEqual(both(stepper, EMPTY_TOLD), EMPTY_TOLD if stepper.tells("", "") else NONE_TOLD)
            self.assertIs(without(stepper, EMPTY_TOLD).tells("", ""), False)
            self.assertIs(either(stepper, EMPTY_TOLD).tells("", ""), True)
        for function in ONE_BY_ONE:
            self.assertEqual(function(EMPTY_TOLD), EMPTY_TOLD)
        self.assertEqual(through(EMPTY_TOLD, EMPTY_TOLD), EMPTY_TOLD)
        self.assertEqual(stepper_of(STILL), EMPTY_TOLD)
        self.assertEqual(stepper_of(MUTE), NONE_TOLD)

    def test_parted_and_joined_again(self):
        for one, other in COUPLES:
            self.assertEqual(either(both(one, other), without(one, other)), least(one))
            self.assertEqual(either(without(one, other), other), either(other, one))
            self.assertEqual(both(without(one, other), other), NONE_TOLD)

    def test_other_signs_at_an_end(self):
        # Only ("a" * n + "a", "a" * n) is told: what else leads to state 2 is no row, and ("b", "b") leads nowhere.
        told = Stepper(((("a", "-", 1), ("a", "a", 0)), ()), (1,))
        for one, other in ((MISLEADING, MISLEADING), (MISLEADING, told), (told, MISLEADING)):
            self.assertEqual(both(one, other), told)
            self.assertEqual(either(one, other), told)
            self.assertEqual(without(one, other), NONE_TOLD)
        self.assertEqual(turned(MISLEADING), Stepper(((("-", "a", 1), ("a", "a", 0)), ()), (1,)))
        self.assertEqual(backward(MISLEADING), told)
        self.assertEqual(same_left(MISLEADING), Stepper(((("a", "a", 1),), (("a", "a", 1),)), (1,)))
        self.assertEqual(
            behind(MISLEADING, MISLEADING),
            Stepper(((("a", "-", 1), ("a", "a", 0)), (("a", "-", 2),), ()), (2,)),
        )
        self.assertEqual(through(MISLEADING, MISLEADING), behind(MISLEADING, MISLEADING))

    def test_turned_and_backward_twice(self):
        for stepper in ALL:
            self.assertEqual(turned(turned(stepper)), least(stepper))
            self.assertEqual(backward(backward(stepper)), least(stepper))
            self.assertEqual(turned(backward(stepper)), backward(turned(stepper)))

    def test_turned_is_numbered_anew(self):
        stepper = Stepper(((("a", "b", 1), ("b", "a", 2)), (("a", "a", 2),), ()), (2,))
        self.assertEqual(turned(stepper), Stepper(((("a", "b", 1), ("b", "a", 2)), (), (("a", "a", 1),)), (1,)))

    def test_gaps_of_the_first_pair_are_filled(self):
        # ("ab", "") and then ("", "cd"), ("c", "dd"): right letters come beside the left ones that stand alone.
        left = Stepper(((("a", "-", 1),), (("b", "-", 2),), ()), (2,))
        right = Stepper(((("-", "c", 1), ("c", "d", 3)), (("-", "d", 2),), (), (("-", "d", 2),)), (2,))
        result = behind(left, right)
        self.holds(result, {("ab", "cd"), ("abc", "dd")}, left, right)
        self.assertEqual(
            result,
            Stepper(((("a", "c", 1), ("a", "d", 2)), (("b", "d", 3),), (("b", "d", 4),), (), (("c", "-", 3),)), (3,)),
        )
        self.holds(behind(turned(left), turned(right)), {("cd", "ab"), ("dd", "abc")}, left, right)
        self.assertEqual(behind(turned(left), turned(right)), turned(result))

    def test_gaps_on_both_sides_add_up(self):
        far = all_within("a", "b", 4)
        self.assertEqual(behind(far, far), all_within("a", "b", 8))
        self.assertEqual(through(far, all_within("b", "a", 4)), all_within("a", "a", 8))
        self.assertEqual(behind(behind(far, far), far), all_within("a", "b", 12))

    def test_gap_far_ahead_with_letters_that_part(self):
        # Each text of four letters, then the same letters with a text beside itself: the right one runs behind.
        ahead = both(all_within("ab", "", 4), without(all_within("ab", "", 4), all_within("ab", "", 3)))
        result = behind(ahead, SAME)
        for word, text in itertools.product(texts_of("ab", 4)[15:], texts_of("ab", 3)):
            self.assertIs(result.tells(word + text, text), True)
            self.assertIs(result.tells(text, word + text), False)
            self.assertIs(result.tells(word + text, text + "a"), False)
        self.assertIs(result.tells("abbaaba", "abb"), False)
        self.assertIs(result.tells("abbaabb", "abb"), True)
        self.assertEqual(spread(pacer_of(result)), (4, 4))

    def test_texts_between_that_are_longer(self):
        # ("a", "abc") and ("abc", "b"): the text between goes on where both outer ones are over.
        one = Stepper(((("a", "a", 1),), (("-", "b", 2),), (("-", "c", 3),), ()), (3,))
        other = Stepper(((("a", "b", 1),), (("b", "-", 2),), (("c", "-", 3),), ()), (3,))
        self.assertEqual(through(one, other), Stepper(((("a", "b", 1),), ()), (1,)))
        self.assertEqual(through(other, one), NONE_TOLD)
        self.assertEqual(through(one, turned(one)), Stepper(((("a", "a", 1),), ()), (1,)))
        # Over at once: ("", "ab") and ("ab", "").
        nothing = Stepper(((("-", "a", 1),), (("-", "b", 2),), ()), (2,))
        self.assertEqual(through(nothing, turned(nothing)), EMPTY_TOLD)
        self.assertEqual(through(turned(nothing), nothing), Stepper(((("a", "a", 1),), (("b", "b", 2),), ()), (2,)))

    def test_texts_between_that_are_shorter(self):
        # ("abb", "a") and ("a", "ba"): from the second letter on the text between is over.
        one = Stepper(((("a", "a", 1),), (("b", "-", 2),), (("b", "-", 3),), ()), (3,))
        other = Stepper(((("a", "b", 1),), (("-", "a", 2),), ()), (2,))
        self.holds(through(one, other), {("abb", "ba")}, one, other)
        self.holds(through(turned(other), turned(one)), {("ba", "abb")}, one, other)

    def test_same_left_of_longer_and_shorter_texts(self):
        stepper = Stepper(
            (
                (("-", "b", 1), ("a", "-", 3), ("a", "a", 4)),
                (("-", "b", 2),),
                (),
                (("b", "-", 5),),
                (("-", "a", 5),),
                (),
            ),
            (2, 5),
        )
        self.assertEqual(short(stepper), {("", "bb"), ("ab", ""), ("a", "aa")})
        self.holds(same_left(stepper), {("", ""), ("ab", "ab"), ("a", "a")}, stepper)
        self.holds(same_left(turned(stepper)), {("bb", "bb"), ("", ""), ("aa", "aa")}, stepper)

    def test_all_within_at_the_bound_and_beyond(self):
        for most in range(5):
            stepper = all_within("abc", "ab", most)
            for many in range(4):
                left, right = ("cab" * 3)[: many + most], "abab"[:many]
                self.assertIs(stepper.tells(left, right), True)
                self.assertIs(stepper.tells(right, left.replace("c", "b")), True)
                self.assertIs(stepper.tells(left + "a", right), False)
                self.assertIs(stepper.tells(right, left.replace("c", "b") + "a"), False)
            self.assertIs(stepper.tells("d", "a"), False)
            self.assertIs(stepper.tells("a", "c"), False)

    def test_all_within_without_letters(self):
        for most in range(5):
            self.assertEqual(all_within("", "", most), EMPTY_TOLD)
        self.assertEqual(all_within("abc", "", 0), EMPTY_TOLD)
        self.assertEqual(all_within("", "a", 1), Stepper(((("-", "a", 1),), ()), (0, 1)))
        self.assertEqual(all_within("a", "", 2), Stepper(((("a", "-", 1),), (("a", "-", 2),), ()), (0, 1, 2)))
        self.assertEqual(
            all_within("a", "b", 1), Stepper(((("-", "b", 1), ("a", "-", 1), ("a", "b", 0)), ()), (0, 1))
        )


class PutOtherwiseTest(JoiningTest):
    def put_otherwise(self, stepper):
        return twice(stepper), with_useless_steps(stepper), with_useless_steps(twice(stepper)), least(stepper)

    def test_one_stepper(self):
        for stepper in (*WRITTEN_OUT, *GAPPED[:15]):
            for function in ONE_BY_ONE:
                result = function(stepper)
                for other in self.put_otherwise(stepper):
                    self.assertEqual(function(other), result)

    def test_two_steppers(self):
        for one, other in zip(GAPPED[:20], (*WRITTEN_OUT, *DRAWN)):
            for function in TWO_BY_TWO:
                result = function(one, other)
                for first, second in zip(self.put_otherwise(one), self.put_otherwise(other)):
                    self.assertEqual(function(first, second), result)
                    self.assertEqual(function(one, second), result)

    def test_results_are_steppers_like_others(self):
        for one, other in zip(GAPPED[:15], GAPPED[15:30]):
            for function in TWO_BY_TWO:
                result = function(one, other)
                self.assertEqual(either(result, result), result)
                self.assertEqual(turned(turned(result)), result)
                self.assertEqual(Stepper.read(str(result)), result)

    def test_read_from_behind_with_fewer_states(self):
        # Forward it has to keep the last three pairs, from behind it looks at the third one.
        forward = backward(behind(third_alike(), all_within("ab", "ab", 0)))
        self.assertEqual((len(forward), len(backward(forward))), (8, 4))
        for one, other in itertools.product((forward, backward(forward), SHIFT_STEPPER), repeat=2):
            self.assertEqual(behind(one, other), stepper_of(pacer_of(one) + pacer_of(other)))
            self.assertEqual(backward(behind(one, other)), behind(backward(other), backward(one)))
            self.assertEqual(turned(through(one, other)), through(turned(other), turned(one)))
        self.assertEqual(same_left(forward), SAME_OF_THREE)


def third_alike():
    """Pairs of texts of three letters whose last ones are alike."""
    rows = [tuple((left, right, at + 1) for left in "ab" for right in "ab") for at in range(2)]
    return Stepper((*rows, (("a", "a", 3), ("b", "b", 3)), ()), (3,))


class NothingChangesTest(unittest.TestCase):
    def test_again_and_nothing_changes(self):
        for one, other in zip(ALL, ALL[5:]):
            before = (one.rows, one.ends, other.rows, other.ends)
            for function in TWO_BY_TWO:
                self.assertEqual(function(one, other), function(one, other))
            for function in ONE_BY_ONE:
                self.assertEqual(function(one), function(one))
            self.assertEqual((one.rows, one.ends, other.rows, other.ends), before)


class InterfaceTest(unittest.TestCase):
    def test_by_name(self):
        for function in TWO_BY_TWO:
            one, other = SHIFT_STEPPER, SAME
            self.assertEqual(function(other=other, one=one), function(one, other))
        for function in ONE_BY_ONE:
            self.assertEqual(function(stepper=SHIFT_STEPPER), function(SHIFT_STEPPER))
        self.assertEqual(all_within(most=0, right_letters="b", left_letters="a"), ONE_STEPPER)

    def test_defined_in_their_file(self):
        for function in (*ONE_BY_ONE, *TWO_BY_TWO, all_within):
            self.assertEqual(function.__module__, "evenlead.joining")
            self.assertIs(getattr(joining, function.__name__), function)
