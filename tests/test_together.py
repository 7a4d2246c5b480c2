"""Promises 3, 5 and 10 over several modules: pacers and what is made of them, beside their steppers."""

import itertools
import unittest

from evenlead.answers import answers
from evenlead.comparing import is_alike, is_part, parting
from evenlead.errors import Uneven
from evenlead.instep import pacer_of, stepper_of
from evenlead.joining import all_within, backward, behind, both, either, same_left, through, turned, without
from evenlead.leads import is_even, judge, judge_holds, leads, spread, useful
from evenlead.pacers import Pacer
from tests.oracles import drawn_even_pacers, texts_of, told_by_pacer
from tests.test_instep import CAUGHT_UP, EVEN, FOUR_AHEAD
from tests.test_leads import DIAMOND
from tests.values import MUTE, NONE_TOLD, ONE, SAME, SHIFT, STILL

PACERS = [*EVEN[:70], *drawn_even_pacers(60), ONE, SHIFT, MUTE, STILL, DIAMOND, FOUR_AHEAD, CAUGHT_UP]
COUPLES = [*zip(PACERS, PACERS[1:]), *zip(PACERS, PACERS), *itertools.product(PACERS[-7:], repeat=2)]
TEXTS = texts_of("ab", 3)


def exchanged(pacer, on_left, on_right):
    """The pacer with other letters on the left and on the right."""
    def word(text, letters):
        return "".join(letters.get(letter, letter) for letter in text)

    moves = [(state, word(left, on_left), word(right, on_right), on) for state, left, right, on in pacer.moves]
    return Pacer(pacer.size, pacer.begins, tuple(moves), pacer.ends)


def with_ring(pacer, state, left, right):
    """The pacer with one more move from a state to itself."""
    return Pacer(pacer.size, pacer.begins, (*pacer.moves, (state, left, right, state)), pacer.ends)


class PacersAndSteppersTest(unittest.TestCase):
    def test_either_and_behind(self):
        for one, other in COUPLES:
            first, second = stepper_of(one), stepper_of(other)
            self.assertEqual(stepper_of(one | other), either(first, second))
            if len(first) * len(second) < 1000:
                self.assertEqual(stepper_of(one + other), behind(first, second))

    def test_turned_and_backward(self):
        for pacer in PACERS:
            self.assertEqual(stepper_of(pacer.turned()), turned(stepper_of(pacer)))
            self.assertEqual(stepper_of(pacer.backward()), backward(stepper_of(pacer)))

    def test_behind_with_many_states(self):
        # The states of these steppers stand for sets themselves, so sets of them are very many, and nearly all alike.
        one = Pacer(
            3,
            (0, 1, 2),
            (
                (0, "aa", "", 1),
                (0, "aa", "b", 2),
                (1, "b", "b", 1),
                (1, "ba", "bb", 1),
                (1, "a", "ab", 2),
                (1, "a", "ba", 2),
                (2, "aa", "ab", 2),
                (2, "a", "bb", 0),
            ),
            (2,),
        )
        other = Pacer(
            2,
            (0, 1),
            (
                (0, "b", "a", 0),
                (0, "", "b", 1),
                (0, "a", "aa", 1),
                (0, "a", "ba", 1),
                (1, "bb", "bb", 1),
                (1, "aa", "ba", 1),
                (1, "aa", "a", 0),
                (1, "aa", "b", 0),
            ),
            (1,),
        )
        first, second = stepper_of(one), stepper_of(other)
        self.assertEqual((len(first), len(second)), (142, 69))
        self.assertEqual(behind(first, second), stepper_of(one + other))

    def test_cut_and_less_by_pairs(self):
        for one, other in COUPLES[:80]:
            first, second = told_by_pacer(one, TEXTS), told_by_pacer(other, TEXTS)
            self.assertEqual(self.told(both(stepper_of(one), stepper_of(other))), first & second)
            self.assertEqual(self.told(without(stepper_of(one), stepper_of(other))), first - second)

    def told(self, stepper):
        return {(left, right) for left in TEXTS for right in TEXTS if stepper.tells(left, right)}

    def test_comparing_pacers_by_their_steppers(self):
        for one, other in COUPLES:
            pair = parting(stepper_of(one), stepper_of(other))
            self.assertIs(pair is None, stepper_of(one) == stepper_of(other))
            if pair is not None:
                self.assertIsNot(one.tells(*pair), other.tells(*pair))
            self.assertIs(is_part(stepper_of(one), stepper_of(one | other)), True)
            self.assertIs(is_alike(stepper_of(pacer_of(stepper_of(one))), stepper_of(one)), True)

    def test_answers_are_what_the_pacer_tells(self):
        for pacer in PACERS:
            for left in TEXTS[:7]:
                found = answers(stepper_of(pacer), left)
                self.assertTrue(all(pacer.tells(left, right) for right in found))
                told = [right for right in texts_of("ab", 3) if pacer.tells(left, right)]
                self.assertEqual([right for right in found if len(right) <= 3], sorted(told))

    def test_letters_called_otherwise(self):
        for pacer in PACERS:
            stepper = stepper_of(pacer)
            swapped = exchanged(pacer, {"a": "b", "b": "a"}, {})
            self.assertEqual(stepper_of(swapped), through(self.renaming("ab", "ba"), stepper))
            swapped = exchanged(pacer, {}, {"a": "x", "b": "y"})
            self.assertEqual(stepper_of(swapped), through(stepper, self.renaming("ab", "xy")))

    def renaming(self, letters, others):
        return stepper_of(Pacer(1, (0,), tuple((0, *pair, 0) for pair in zip(letters, others)), (0,)))

    def test_through_the_same_text(self):
        for pacer in PACERS:
            stepper = stepper_of(pacer)
            self.assertEqual(through(stepper, SAME), stepper)
            self.assertEqual(through(SAME, stepper), stepper)
            self.assertEqual(both(through(stepper, turned(stepper)), SAME), same_left(stepper))

    def test_within_the_spread(self):
        for pacer in PACERS:
            least_and_greatest = spread(pacer)
            if least_and_greatest is None:
                self.assertEqual(stepper_of(pacer), NONE_TOLD)
                continue
            most = max(map(abs, least_and_greatest))
            self.assertIs(is_part(stepper_of(pacer), all_within("ab", "ab", most)), True)
            if most > 0:
                self.assertIs(is_part(stepper_of(pacer), all_within("ab", "ab", most - 1)), False)


class UnevenRingTest(unittest.TestCase):
    def test_an_uneven_ring_put_in(self):
        for pacer in PACERS:
            for state in useful(pacer):
                for words in (("a", ""), ("", "b"), ("ab", "b"), ("a", "bb")):
                    self.tells_pairs_beyond_each_bound(with_ring(pacer, state, *words))

    def tells_pairs_beyond_each_bound(self, pacer):
        self.assertIs(is_even(pacer), False)
        paper = judge(pacer)
        self.assertIs(judge_holds(pacer, paper), True)
        _, _, there, ring, on = paper
        differences = []
        for many in (0, 1, 2, 5, 9):
            left, right = pacer.spelled(there + ring * many + on)
            self.assertIs(pacer.tells(left, right), True)
            differences.append(abs(len(left) - len(right)))
        self.assertGreaterEqual(differences[-1], 9 - differences[0])
        for function in (stepper_of, spread, lambda thing: leads(thing, 0)):
            with self.assertRaises(Uneven) as caught:
                function(pacer)
            self.assertIs(judge_holds(pacer, caught.exception.paper), True)

    def test_a_ring_put_in_where_no_way_comes(self):
        for pacer in PACERS:
            more = Pacer(pacer.size + 1, pacer.begins, (*pacer.moves, (0, "a", "b", pacer.size)), pacer.ends)
            useless = with_ring(more, pacer.size, "a", "")
            self.assertIs(is_even(useless), True)
            self.assertEqual(stepper_of(useless), stepper_of(pacer))
            self.assertIs(is_even(useless | useless.turned()), True)
