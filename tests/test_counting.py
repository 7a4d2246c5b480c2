"""Promises 4, 13, 18 and 19: how many pairs are told, and their numbers in order."""

import unittest

from evenlead import counting
from evenlead.counting import how_many, index_of, is_finite, pair_at
from evenlead.errors import NotTold
from evenlead.joining import all_within, behind, both, either, turned, without
from evenlead.steppers import Stepper, least
from tests.oracles import in_order, texts_of, told_pairs
from tests.test_answers import RINGS_OF_GAPS
from tests.test_comparing import line, ring
from tests.test_joining import ALL, EMPTY_TOLD, LEFT_LONGER, MISLEADING, RIGHT_LONGER
from tests.test_least import twice, with_useless_steps
from tests.values import NONE_TOLD, ONE_STEPPER, SAME, SHIFT_STEPPER

MOST = 4
MOST_LENGTH = 60
TEXTS = texts_of("ab", 3)


def numbers_by_length(stepper, most):
    """How many rows of told pairs there are of each length, counted step by step."""
    places = {(0, ""): 1}
    numbers = []
    for _ in range(most + 1):
        numbers.append(sum(many for (state, _), many in places.items() if state in stepper.ends))
        more = {}
        for (state, ended), many in places.items():
            for left, right, further in stepper.rows[state]:
                side = "right" if right == "-" else "left" if left == "-" else ""
                if ended in ("", side):
                    more[further, side] = more.get((further, side), 0) + many
        places = more
    return numbers


class HowManyTest(unittest.TestCase):
    def test_against_all_pairs_of_short_texts(self):
        for stepper in ALL:
            lengths = [max(map(len, pair)) for pair in told_pairs(stepper, MOST, MOST)]
            for length in range(MOST + 1):
                self.assertEqual(how_many(stepper, length), lengths.count(length), str(stepper))

    def test_lengths_to_sixty(self):
        for stepper in ALL:
            numbers = numbers_by_length(stepper, MOST_LENGTH)
            found = [how_many(stepper, length) for length in range(MOST_LENGTH + 1)]
            self.assertEqual(found, numbers, str(stepper))

    def test_example(self):
        self.assertEqual(how_many(SAME, 3), 8)

    def test_written_out(self):
        for length in range(MOST_LENGTH + 1):
            self.assertEqual(how_many(SAME, length), 2**length)
            self.assertEqual(how_many(SHIFT_STEPPER, length), 2 ** (length - 1) if length else 0)
            self.assertEqual(how_many(ONE_STEPPER, length), 1)
            self.assertEqual(how_many(NONE_TOLD, length), 0)
            self.assertEqual(how_many(EMPTY_TOLD, length), 1 if length == 0 else 0)
            for most in range(5):
                shorter = [3**length * 2 ** (length - less) for less in range(1, most + 1) if less <= length]
                shorter += [2**length * 3 ** (length - less) for less in range(1, most + 1) if less <= length]
                self.assertEqual(how_many(all_within("abc", "ab", most), length), 6**length + sum(shorter))

    def test_of_joined_ones(self):
        for one, other in zip(ALL, ALL[3:]):
            for length in (0, 1, 2, 7, 60):
                together = how_many(either(one, other), length) + how_many(both(one, other), length)
                self.assertEqual(together, how_many(one, length) + how_many(other, length))
                apart = how_many(without(one, other), length) + how_many(both(one, other), length)
                self.assertEqual(apart, how_many(one, length))
                self.assertEqual(how_many(turned(one), length), how_many(one, length))

    def test_steps_that_no_row_uses(self):
        for length in range(MOST_LENGTH + 1):
            self.assertEqual(how_many(MISLEADING, length), 1 if length else 0)
            self.assertEqual(how_many(RINGS_OF_GAPS, length), 1 if length == 1 else 0)

    def test_lengths_beyond(self):
        self.assertEqual(how_many(SAME, 200), 2**200)
        self.assertEqual(how_many(line(5, (5,)), 10**6), 0)


class FiniteTest(unittest.TestCase):
    def test_finitely_many(self):
        for stepper in (NONE_TOLD, EMPTY_TOLD, line(11, (0, 3, 11)), all_within("", "abc", 4), all_within("a", "", 2)):
            self.assertIs(is_finite(stepper), True)

    def test_infinitely_many(self):
        for stepper in (SAME, SHIFT_STEPPER, ONE_STEPPER, MISLEADING, ring(1), ring(12), all_within("a", "b", 0)):
            self.assertIs(is_finite(stepper), False)

    def test_rings_that_no_told_pair_uses(self):
        to_no_end = Stepper(((("a", "a", 1), ("b", "b", 2)), (("a", "a", 1),), ()), (2,))
        nothing_leads_there = Stepper(((("b", "b", 2),), (("a", "a", 1), ("b", "b", 2)), ()), (2,))
        for stepper in (to_no_end, nothing_leads_there, RINGS_OF_GAPS):
            self.assertIs(is_finite(stepper), True)
            self.assertIs(is_finite(turned(stepper)), True)

    def test_rings_of_steps_that_no_row_uses(self):
        # Behind a gap on the right no letters come on both sides, nor on the right alone.
        pairs = Stepper(((("a", "-", 1),), (("a", "a", 1), ("b", "-", 2)), ()), (2,))
        other_side = Stepper(((("a", "-", 1),), (("-", "a", 0), ("b", "-", 2)), ()), (2,))
        for stepper in (pairs, other_side):
            self.assertEqual(told_pairs(stepper, 6, 6), {("ab", "")})
            self.assertIs(is_finite(stepper), True)

    def test_rings_on_the_way(self):
        rings = (("a", "a", 0), ("b", "a", 1)), (("a", "-", 2),), ()
        self.assertIs(is_finite(Stepper(rings, (2,))), False)
        there_and_back = (("a", "a", 1),), (("-", "a", 2), ("a", "b", 0)), ()
        self.assertIs(is_finite(Stepper(there_and_back, (2,))), False)
        self.assertIs(is_finite(Stepper(there_and_back, (0,))), False)
        behind_the_only_end = (("a", "a", 1),), (("b", "b", 1),)
        self.assertIs(is_finite(Stepper(behind_the_only_end, (0,))), True)

    def test_exactly_if_there_is_a_longest_one(self):
        for stepper in ALL:
            size = len(least(stepper))
            longer = sum(how_many(stepper, length) for length in range(size, 2 * size + 1))
            self.assertIs(is_finite(stepper), longer == 0)
            self.assertIs(is_finite(twice(stepper)), longer == 0)
            self.assertIs(is_finite(with_useless_steps(stepper)), longer == 0)


class NumbersTest(unittest.TestCase):
    def test_there_and_back_in_order(self):
        for stepper in ALL:
            pairs = in_order(told_pairs(stepper, MOST, MOST))
            for index, pair in enumerate(pairs[:80]):
                self.assertEqual(pair_at(stepper, index), pair, str(stepper))
                self.assertEqual(index_of(stepper, *pair), index, str(stepper))

    def test_none_behind_the_last_one(self):
        for stepper in ALL:
            if is_finite(stepper):
                many = sum(how_many(stepper, length) for length in range(len(least(stepper))))
                self.assertEqual(len({pair_at(stepper, index) for index in range(many)} - {None}), many)
                for index in (many, many + 1, many + 7, 10**3, 10**6):
                    self.assertIsNone(pair_at(stepper, index))
        self.assertIsNone(pair_at(NONE_TOLD, 0))
        self.assertEqual(pair_at(EMPTY_TOLD, 0), ("", ""))
        self.assertIsNone(pair_at(EMPTY_TOLD, 1))
        self.assertIsNone(pair_at(line(12, (3, 12)), 2))

    def test_example(self):
        self.assertEqual(pair_at(SAME, 2), ("b", "b"))

    def test_written_out(self):
        self.assertEqual([pair_at(SAME, index)[0] for index in range(31)], texts_of("ab", 4))
        self.assertEqual([pair_at(SHIFT_STEPPER, index)[0] for index in range(31)], texts_of("ab", 4))
        for index in range(61):
            self.assertEqual(pair_at(ONE_STEPPER, index), ("a" * index, "b" * index))
        self.assertEqual(
            [pair_at(all_within("ab", "c", 1), index) for index in range(11)],
            [
                ("", ""),
                ("", "c"),
                ("a", ""),
                ("a", "c"),
                ("b", ""),
                ("b", "c"),
                ("a", "cc"),
                ("aa", "c"),
                ("aa", "cc"),
                ("ab", "c"),
                ("ab", "cc"),
            ],
        )
        first = [("a", ""), ("b", ""), ("aa", ""), ("aa", "b")]
        self.assertEqual([pair_at(LEFT_LONGER, index) for index in range(4)], first)
        first = [("", "ab"), ("a", "aab"), ("b", "bab")]
        self.assertEqual([pair_at(RIGHT_LONGER, index) for index in range(3)], first)

    def test_indexes_to_a_million(self):
        for stepper in (SAME, SHIFT_STEPPER, all_within("abc", "abc", 4), behind(LEFT_LONGER, RIGHT_LONGER)):
            last = None
            for index in (0, 1, 9, 10, 999, 1000, 123456, 999998, 999999, 10**6):
                pair = pair_at(stepper, index)
                self.assertIs(stepper.tells(*pair), True)
                self.assertEqual(index_of(stepper, *pair), index)
                self.assertTrue(last is None or in_order([last, pair])[0] == last)
                last = pair
        self.assertEqual(pair_at(SAME, 10**6)[0], f"{10**6 + 1:b}"[1:].replace("0", "a").replace("1", "b"))

    def test_long_pairs_there_and_back(self):
        for stepper in ALL:
            if not is_finite(stepper):
                for index in (50, 51, 55):
                    pair = pair_at(stepper, index)
                    self.assertEqual(index_of(stepper, *pair), index)
                    self.assertIs(stepper.tells(*pair), True)

    def test_not_told(self):
        for stepper in ALL:
            for left in TEXTS[:7]:
                for right in TEXTS[:7]:
                    if not stepper.tells(left, right):
                        with self.assertRaises(NotTold) as caught:
                            index_of(stepper, left, right)
                        self.assertEqual(caught.exception.pair, (left, right))
        for pair in (("z", "z"), ("a", "zz"), ("", ""), ("a" * 12, "b" * 12)):
            with self.assertRaises(NotTold) as caught:
                index_of(SHIFT_STEPPER, *pair)
            self.assertEqual(caught.exception.pair, pair)

    def test_put_otherwise(self):
        for stepper in ALL:
            for other in (twice(stepper), with_useless_steps(stepper)):
                for index in (0, 1, 5, 20):
                    pair = pair_at(stepper, index)
                    self.assertEqual(pair_at(other, index), pair)
                    self.assertTrue(pair is None or index_of(other, *pair) == index)

    def test_all_pairs_by_their_numbers(self):
        for stepper in ALL:
            pairs = [pair_at(stepper, index) for index in range(40)]
            told = [pair for pair in pairs if pair is not None]
            self.assertEqual(pairs, told + [None] * (40 - len(told)))
            self.assertEqual(in_order(told), told)
            self.assertEqual(len(set(told)), len(told))


class InterfaceTest(unittest.TestCase):
    def test_again_and_nothing_changes(self):
        for stepper in ALL:
            before = (stepper.rows, stepper.ends)
            self.assertEqual(how_many(stepper, 5), how_many(stepper, 5))
            self.assertIs(is_finite(stepper), is_finite(stepper))
            self.assertEqual(pair_at(stepper, 5), pair_at(stepper, 5))
            self.assertEqual((stepper.rows, stepper.ends), before)

    def test_by_name(self):
        self.assertEqual(how_many(length=3, stepper=SAME), 8)
        self.assertIs(is_finite(stepper=SAME), False)
        self.assertEqual(pair_at(index=2, stepper=SAME), ("b", "b"))
        self.assertEqual(index_of(right="aba", left="ba", stepper=SHIFT_STEPPER), 5)

    def test_defined_in_their_file(self):
        for function in (how_many, is_finite, pair_at, index_of):
            self.assertEqual(function.__module__, "evenlead.counting")
            self.assertIs(getattr(counting, function.__name__), function)
