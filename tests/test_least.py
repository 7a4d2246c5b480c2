"""Promises 3, 9, 18 and 19: the least stepper, and how its states are numbered."""

import itertools
import unittest

from evenlead.steppers import Stepper, least
from tests.oracles import is_least, texts_of, told_by_rows
from tests.test_steppers import AHEAD, DRAWN_STEPPERS
from tests.values import NONE_TOLD, ONE_STEPPER, SAME, SHIFT_STEPPER, STEPPERS

TEXTS = texts_of("ab", 4)


def renumbered(stepper, order):
    """The stepper with its states in another order, state 0 in its place."""
    place = {state: at for at, state in enumerate(order)}
    rows = tuple(
        tuple((left, right, place[further]) for left, right, further in stepper.rows[state]) for state in order
    )
    return Stepper(rows, tuple(sorted(place[end] for end in stepper.ends)))


def twice(stepper):
    """The stepper with each state twice: each step leads to the other one of both."""
    size = len(stepper.rows)
    here = tuple(tuple((left, right, further + size) for left, right, further in row) for row in stepper.rows)
    return Stepper(here + stepper.rows, stepper.ends + tuple(end + size for end in stepper.ends))


def with_useless_steps(stepper):
    """The stepper with states that nothing leads to, that lead to no end, and steps that no row ever uses."""
    size = len(stepper.rows)
    dead = (("a", "a", size), ("b", "-", size))
    alone = (("a", "a", 0), ("b", "b", size + 1))
    rows = tuple(
        tuple(sorted((*row, *[("c", sign, size) for sign in "-a" if ("c", sign) not in [step[:2] for step in row]])))
        for row in stepper.rows
    )
    return Stepper((*rows, dead, alone), (*stepper.ends, size + 1))


class WrittenOutTest(unittest.TestCase):
    def test_of_the_least_one_it_is_it(self):
        for stepper in STEPPERS:
            self.assertEqual(least(stepper), stepper)

    def test_states_twice(self):
        self.assertEqual(least(Stepper(((("a", "b", 1),), (("a", "b", 0),)), (0, 1))), ONE_STEPPER)
        for stepper in STEPPERS:
            self.assertEqual(least(twice(stepper)), stepper)
            self.assertEqual(least(twice(twice(stepper))), stepper)

    def test_in_another_order(self):
        self.assertEqual(least(renumbered(SHIFT_STEPPER, (0, 2, 1))), SHIFT_STEPPER)
        self.assertNotEqual(renumbered(SHIFT_STEPPER, (0, 2, 1)), SHIFT_STEPPER)

    def test_steps_that_no_pair_uses(self):
        for stepper in STEPPERS:
            self.assertEqual(least(with_useless_steps(stepper)), stepper)

    def test_steps_that_rows_of_told_pairs_do_not_use(self):
        # Behind a gap on the left, these go on with letters on the left, which no row does.
        stepper = Stepper(((("-", "a", 1), ("a", "a", 0)), (("a", "-", 1), ("a", "a", 0), ("b", "-", 2)), ()), (1, 2))
        self.assertEqual(least(stepper), Stepper(((("-", "a", 1), ("a", "a", 0)), ()), (1,)))

    def test_a_state_that_reads_otherwise_behind_a_gap(self):
        # State 1 is come to with letters on both sides, and where only the left text goes on: that makes two states.
        stepper = Stepper(((("a", "-", 1), ("a", "a", 1)), (("b", "-", 2), ("b", "b", 2)), ()), (2,))
        self.assertEqual(
            least(stepper),
            Stepper(((("a", "-", 1), ("a", "a", 2)), (("b", "-", 3),), (("b", "-", 3), ("b", "b", 3)), ()), (3,)),
        )

    def test_nothing_is_told(self):
        for stepper in (
            NONE_TOLD,
            Stepper(((), (), ()), ()),
            Stepper(((("a", "a", 0), ("b", "-", 1)), ()), ()),
            Stepper(((("a", "a", 0),), (("b", "b", 1),)), (1,)),
            Stepper(((("a", "-", 1),), (("-", "a", 2),), ()), (2,)),
            Stepper(((("-", "a", 1),), (("a", "a", 2),), ()), (2,)),
        ):
            with self.subTest(stepper=str(stepper)):
                self.assertEqual(least(stepper), Stepper(((),), ()))

    def test_one_pair(self):
        self.assertEqual(least(Stepper(((), (("a", "a", 0),)), (0,))), Stepper(((),), (0,)))
        stepper = Stepper(
            ((("a", "b", 3), ("b", "b", 2)), (("a", "a", 1),), (("a", "a", 2),), (("b", "-", 1), ("c", "-", 2))), (1,)
        )
        self.assertEqual(least(stepper), Stepper(((("a", "b", 1),), (("b", "-", 2),), ()), (2,)))

    def test_states_that_read_alike_are_one(self):
        stepper = Stepper(
            (
                (("a", "a", 1), ("a", "b", 2), ("b", "a", 3)),
                (("a", "a", 4),),
                (("a", "a", 5),),
                (("a", "a", 5), ("b", "b", 5)),
                (),
                (),
            ),
            (4, 5),
        )
        self.assertEqual(
            least(stepper),
            Stepper(
                (
                    (("a", "a", 1), ("a", "b", 1), ("b", "a", 2)),
                    (("a", "a", 3),),
                    (("a", "a", 3), ("b", "b", 3)),
                    (),
                ),
                (3,),
            ),
        )

    def test_ends_part_states(self):
        stepper = Stepper(((("a", "a", 1),), (("a", "a", 2),), (("a", "a", 0),)), (1,))
        self.assertEqual(least(stepper), stepper)
        self.assertEqual(least(Stepper(stepper.rows, (0, 1, 2))), Stepper(((("a", "a", 0),),), (0,)))
        chain = Stepper(((("a", "a", 1),), (("a", "a", 2),), ()), (0, 2))
        self.assertEqual(least(chain), chain)

    def test_numbers_as_they_are_met(self):
        # State by state and step by step, not along the first way to its end.
        stepper = Stepper(
            (
                (("-", "a", 4), ("a", "a", 2), ("b", "b", 1)),
                (("a", "a", 0),),
                (("b", "b", 5), ("c", "c", 1)),
                (),
                (("-", "c", 3),),
                (("z", "z", 1),),
            ),
            (3,),
        )
        self.assertEqual(
            least(stepper),
            Stepper(
                (
                    (("-", "a", 1), ("a", "a", 2), ("b", "b", 3)),
                    (("-", "c", 4),),
                    (("b", "b", 5), ("c", "c", 3)),
                    (("a", "a", 0),),
                    (),
                    (("z", "z", 3),),
                ),
                (4,),
            ),
        )

    def test_by_name(self):
        self.assertEqual(least(stepper=twice(SAME)), SAME)


class DrawnTest(unittest.TestCase):
    def test_it_tells_the_same_pairs(self):
        for stepper in (*DRAWN_STEPPERS, AHEAD):
            found = least(stepper)
            for left, right in itertools.product(TEXTS, repeat=2):
                self.assertEqual(found.tells(left, right), stepper.tells(left, right), (str(stepper), left, right))

    def test_it_is_least(self):
        for stepper in (*DRAWN_STEPPERS, AHEAD):
            found = least(stepper)
            self.assertIsInstance(found, Stepper)
            self.assertTrue(is_least(found), str(stepper))
            self.assertEqual(least(found), found)

    def test_put_otherwise_it_is_the_same(self):
        for stepper in DRAWN_STEPPERS:
            found = least(stepper)
            self.assertEqual(least(twice(stepper)), found)
            self.assertEqual(least(with_useless_steps(stepper)), found)
            for order in itertools.permutations(range(1, len(stepper))):
                self.assertEqual(least(renumbered(stepper, (0, *order))), found)

    def test_equal_exactly_if_the_same_pairs_are_told(self):
        # Two of at most 12 places with the side that goes on: what parts them is found among short texts.
        texts = texts_of("ab", 5)
        told = {}
        for stepper in DRAWN_STEPPERS[:40]:
            pairs = frozenset(told_by_rows(stepper.rows, stepper.ends, texts))
            told.setdefault(pairs, []).append(least(stepper))
        for steppers in told.values():
            for stepper in steppers:
                self.assertEqual(stepper, steppers[0])
        firsts = [steppers[0] for steppers in told.values()]
        for one, other in itertools.combinations(firsts, 2):
            self.assertNotEqual(one, other)
