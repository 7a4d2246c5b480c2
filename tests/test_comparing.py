"""Promises 3, 4, 11, 18 and 19: whether steppers tell the same pairs, and the first pair that parts them."""

import itertools
import unittest

from evenlead import comparing
from evenlead.comparing import is_alike, is_part, missing, parting
from evenlead.instep import stepper_of
from evenlead.joining import all_within, behind, both, either, without
from evenlead.steppers import Stepper, least
from tests.oracles import in_order, signs_of, told_pairs
from tests.test_joining import ALL, BOTH_LONGER, COUPLES, EMPTY_TOLD, LEFT_LONGER, MISLEADING, RIGHT_LONGER
from tests.test_least import twice, with_useless_steps
from tests.values import NONE_TOLD, ONE_STEPPER, SAME, SHIFT, SHIFT_STEPPER

MOST = 4


def first_of(pairs):
    """The first pair in order, or None."""
    return in_order(pairs)[0] if pairs else None


def length_of(pair):
    return len(signs_of(*pair))


def line(many, ends, letters="ab"):
    """A stepper that reads so many pairs of these letters, one behind the other."""
    return Stepper((*(((*letters, at + 1),) for at in range(many)), ()), ends)


class DefinitionTest(unittest.TestCase):
    def agrees(self, found, pairs, case):
        """Whether the first of these pairs was found, or, as they are all short, a longer one or none."""
        if pairs:
            self.assertEqual(found, first_of(pairs), case)
        else:
            self.assertTrue(found is None or length_of(found) > MOST, case)

    def test_against_all_pairs_of_short_texts(self):
        for one, other in COUPLES:
            case = (str(one), str(other))
            first, second = told_pairs(one, MOST, MOST), told_pairs(other, MOST, MOST)
            self.agrees(parting(one, other), first ^ second, case)
            self.agrees(missing(one, other), first - second, case)
            self.agrees(missing(other, one), second - first, case)

    def test_a_pair_that_parts_them_is_told_by_one_of_them(self):
        for one, other in COUPLES:
            pair = parting(one, other)
            if pair is not None:
                self.assertIsNot(one.tells(*pair), other.tells(*pair))
                self.assertIs(type(pair), tuple)
            pair = missing(one, other)
            if pair is not None:
                self.assertEqual((one.tells(*pair), other.tells(*pair)), (True, False))

    def test_none_exactly_where_there_is_nothing(self):
        for one, other in COUPLES:
            self.assertIs(parting(one, other) is None, least(one) == least(other))
            self.assertIs(parting(one, other) is None, is_alike(one, other))
            self.assertIs(missing(one, other) is None, is_part(one, other))
            self.assertIs(is_part(one, other), without(one, other) == NONE_TOLD)
            self.assertIs(is_alike(one, other), is_part(one, other) and is_part(other, one))

    def test_the_same_the_other_way_round(self):
        for one, other in COUPLES:
            self.assertEqual(parting(one, other), parting(other, one))
            self.assertIs(is_alike(one, other), is_alike(other, one))
            ways = [pair for pair in (missing(one, other), missing(other, one)) if pair is not None]
            self.assertEqual(parting(one, other), first_of(ways))

    def test_parts_of_joined_ones(self):
        for one, other in COUPLES[:120]:
            self.assertIs(is_part(both(one, other), one), True)
            self.assertIs(is_part(one, either(one, other)), True)
            self.assertEqual(missing(one, both(one, other)), missing(one, other))
            self.assertEqual(missing(either(one, other), other), missing(one, other))
            self.assertEqual(parting(without(one, other), NONE_TOLD), missing(one, other))


class WrittenOutTest(unittest.TestCase):
    def test_examples(self):
        self.assertEqual(parting(stepper_of(SHIFT), SAME), ("", ""))

    def test_alike_but_put_otherwise(self):
        for stepper in ALL:
            for other in (least(stepper), twice(stepper), with_useless_steps(stepper)):
                self.assertIs(is_alike(stepper, other), True)
                self.assertIs(is_part(stepper, other), True)
                self.assertIs(is_part(other, stepper), True)
                self.assertIsNone(parting(other, stepper))
                self.assertIsNone(missing(stepper, other))
                self.assertIsNone(missing(other, stepper))

    def test_answers_are_bools(self):
        for function in (is_alike, is_part):
            self.assertIs(function(SAME, SAME), True)
            self.assertIs(function(SAME, SHIFT_STEPPER), False)
        self.assertIs(is_part(ONE_STEPPER, all_within("ab", "ab", 0)), True)
        self.assertIs(is_part(all_within("ab", "ab", 0), ONE_STEPPER), False)

    def test_nothing_is_told(self):
        for stepper in ALL:
            self.assertIs(is_part(NONE_TOLD, stepper), True)
            self.assertIsNone(missing(NONE_TOLD, stepper))
            first = first_of(told_pairs(stepper, 2, 2))
            self.assertEqual(missing(stepper, NONE_TOLD), first)
            self.assertEqual(parting(NONE_TOLD, stepper), first)
        self.assertIs(is_alike(NONE_TOLD, Stepper(((("a", "a", 0),),), ())), True)
        self.assertIsNone(parting(NONE_TOLD, NONE_TOLD))

    def test_two_empty_texts(self):
        self.assertEqual(parting(NONE_TOLD, EMPTY_TOLD), ("", ""))
        self.assertEqual(parting(ONE_STEPPER, EMPTY_TOLD), ("a", "b"))
        self.assertEqual(missing(EMPTY_TOLD, SHIFT_STEPPER), ("", ""))
        self.assertIsNone(missing(EMPTY_TOLD, SAME))

    def test_order_of_pairs(self):
        def told(*pairs):
            found = NONE_TOLD
            for left, right in pairs:
                row = signs_of(left, right)
                rows = [((*signs, at + 1),) for at, signs in enumerate(row)]
                found = either(found, Stepper((*rows, ()), (len(row),)))
            return found

        pairs = [("", "a"), ("", "b"), ("a", ""), ("a", "a"), ("a", "b"), ("b", ""), ("", "ab"), ("", "ba"), ("aa", "")]
        pairs += [("ab", ""), ("a", "aa"), ("aa", "a"), ("a", "ba"), ("aa", "b"), ("b", "ab"), ("ba", "a"), ("bb", "b")]
        self.assertEqual(in_order(pairs), pairs)
        for at, pair in enumerate(pairs):
            self.assertEqual(missing(told(*pairs[at:]), NONE_TOLD), pair)
            self.assertEqual(parting(told(*pairs[:at]), told(*pairs)), pair)
            self.assertEqual(parting(told(*pairs[:at], *pairs[at + 1 :]), told(*pairs)), pair)
            one, other = told(pair, *pairs[at + 2 :]), told(*pairs[at : at + 2])
            self.assertEqual(parting(one, other), first_of(pairs[at + 1 :]))

    def test_differ_behind_many_signs(self):
        self.assertEqual(parting(line(11, (11,)), line(10, (10,))), ("a" * 10, "b" * 10))
        self.assertEqual(missing(line(11, (11,)), line(10, (10,))), ("a" * 11, "b" * 11))
        self.assertEqual(parting(line(11, (3, 11)), line(11, (3,))), ("a" * 11, "b" * 11))
        # Rings of unlike sizes: both read the same up to the least number that both sizes divide.
        seven, eleven = ring(7), ring(11)
        self.assertEqual(parting(seven, eleven), ("a" * 7, "a" * 7))
        every = Stepper(((("a", "a", 0),),), (0,))
        self.assertEqual(parting(both(seven, eleven), EMPTY_TOLD), ("a" * 77, "a" * 77))
        self.assertEqual(missing(every, without(every, without(both(seven, eleven), EMPTY_TOLD))), ("a" * 77, "a" * 77))
        self.assertIs(is_alike(both(seven, eleven), ring(77)), True)

    def test_differ_behind_a_gap(self):
        far = all_within("ab", "ab", 4)
        self.assertEqual(missing(far, all_within("ab", "ab", 3)), ("", "aaaa"))
        self.assertEqual(missing(far, either(all_within("ab", "ab", 3), all_within("", "ab", 4))), ("aaaa", ""))
        self.assertEqual(missing(behind(far, far), far), ("", "aaaaa"))
        self.assertEqual(parting(LEFT_LONGER, BOTH_LONGER), ("", "a"))
        self.assertEqual(missing(LEFT_LONGER, BOTH_LONGER), ("a", ""))
        self.assertEqual(parting(RIGHT_LONGER, BOTH_LONGER), ("", "a"))
        self.assertEqual(missing(RIGHT_LONGER, BOTH_LONGER), ("", "ab"))

    def test_other_signs_at_an_end(self):
        told = Stepper(((("a", "-", 1), ("a", "a", 0)), ()), (1,))
        self.assertIs(is_alike(MISLEADING, told), True)
        self.assertIsNone(parting(MISLEADING, told))
        self.assertEqual(parting(MISLEADING, EMPTY_TOLD), ("", ""))


def ring(many):
    """A stepper that tells each text of a that has a multiple of so many letters, beside itself."""
    return Stepper(tuple((("a", "a", (at + 1) % many),) for at in range(many)), (0,))


class InterfaceTest(unittest.TestCase):
    def test_again_and_nothing_changes(self):
        for one, other in itertools.product(ALL[:9], repeat=2):
            before = (one.rows, one.ends, other.rows, other.ends)
            for function in (is_alike, is_part, parting, missing):
                self.assertEqual(function(one, other), function(one, other))
            self.assertEqual((one.rows, one.ends, other.rows, other.ends), before)

    def test_by_name(self):
        self.assertIs(is_alike(other=SAME, one=SAME), True)
        self.assertIs(is_part(other=SAME, one=ONE_STEPPER), False)
        self.assertEqual(parting(other=SAME, one=ONE_STEPPER), ("a", "a"))
        self.assertEqual(missing(other=SAME, one=ONE_STEPPER), ("a", "b"))

    def test_defined_in_their_file(self):
        for function in (is_alike, is_part, parting, missing):
            self.assertEqual(function.__module__, "evenlead.comparing")
            self.assertIs(getattr(comparing, function.__name__), function)
