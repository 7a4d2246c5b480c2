"""Promises 3, 9, 18 and 19: from even pacers to steppers that tell the same pairs, and back."""

import itertools
import unittest

from evenlead import instep
from evenlead.errors import Uneven
from evenlead.instep import pacer_of, stepper_of
from evenlead.leads import is_even, judge_holds, spread
from evenlead.pacers import Pacer
from evenlead.steppers import Stepper, least
from tests.oracles import drawn_even_pacers, has_uneven_ring, is_least, only_rows, only_useful, texts_of
from tests.test_leads import BOTH_WAYS, DIAMOND, LONG_EVEN, LONG_UNEVEN, USELESS_RINGS
from tests.test_pacers import DRAWN
from tests.test_steppers import AHEAD, DRAWN_STEPPERS
from tests.values import MUTE, NONE_TOLD, ONE, ONE_STEPPER, SAME, SHIFT, SHIFT_STEPPER, STILL, WIDE

EVEN = [pacer for pacer in (*DRAWN, *drawn_even_pacers(120)) if not has_uneven_ring(pacer)]
UNEVEN = [pacer for pacer in (*DRAWN, BOTH_WAYS, LONG_UNEVEN) if has_uneven_ring(pacer)]
TEXTS = texts_of("ab", 4)

# The right text has four letters more ahead of all that is on the left, which comes behind them.
FOUR_AHEAD = Pacer(
    3, (0,), ((0, "", "aa", 1), (0, "", "ba", 1), (1, "", "ab", 2), (2, "a", "a", 2), (2, "b", "b", 2)), (2,)
)
# The left text is four letters ahead until the end, where the right one catches up.
CAUGHT_UP = Pacer(
    4,
    (0,),
    ((0, "aa", "", 1), (1, "ab", "", 2), (2, "a", "b", 2), (2, "b", "a", 2), (2, "", "ab", 3), (3, "", "bb", 0)),
    (0,),
)


def with_other_numbers(pacer):
    """The pacer with its states the other way round."""
    def turn(states):
        return tuple(sorted(pacer.size - 1 - state for state in states))

    moves = [(pacer.size - 1 - state, left, right, pacer.size - 1 - on) for state, left, right, on in pacer.moves]
    return Pacer(pacer.size, turn(pacer.begins), tuple(moves), turn(pacer.ends))


def with_moves_in_two(pacer):
    """The pacer with two moves for each one, first all that is written on the right, then the left letters."""
    moves = []
    for at, (state, left, right, further) in enumerate(pacer.moves):
        moves += [(state, "", right, pacer.size + at), (pacer.size + at, left, "", further)]
    return Pacer(pacer.size + len(pacer.moves), pacer.begins, tuple(moves), pacer.ends)


def with_empty_rings(pacer):
    """The pacer with empty moves from each state to one of its own and back."""
    size = pacer.size
    rings = [move for state in range(size) for move in ((state, "", "", state + size), (state + size, "", "", state))]
    return Pacer(2 * size, pacer.begins, (*rings, *pacer.moves), pacer.ends)


def with_useless_states(pacer):
    """The pacer with uneven rings at a state that leads to no end, and at one that nothing leads to."""
    size = pacer.size
    more = [(state, "", "a", size) for state in range(size)] + [(size, "", "b", size)]
    more += [(size + 1, "a", "", state) for state in range(size)] + [(size + 1, "b", "", size + 1)]
    return Pacer(size + 2, pacer.begins, (*more, *pacer.moves), (*pacer.ends, size + 1))


def put_otherwise(pacer):
    """Pacers that tell the same pairs."""
    return (
        with_other_numbers(pacer),
        with_moves_in_two(pacer),
        with_empty_rings(pacer),
        with_useless_states(pacer),
        Pacer(pacer.size, pacer.begins, pacer.moves[::-1] + pacer.moves, pacer.ends),
        pacer | pacer,
        pacer | MUTE,
        STILL + pacer,
        pacer + STILL,
        pacer.turned().turned(),
    )


class WrittenOutTest(unittest.TestCase):
    def test_examples(self):
        self.assertEqual(stepper_of(ONE), ONE_STEPPER)
        self.assertEqual(stepper_of(SHIFT), SHIFT_STEPPER)

    def test_nothing_is_told(self):
        moves = ((0, "a", "", 1), (1, "", "b", 0))
        for pacer in (MUTE, Pacer(2, (0,), moves, ()), Pacer(2, (), moves, (0,)), Pacer(3, (0,), moves, (2,))):
            self.assertEqual(stepper_of(pacer), Stepper(((),), ()))

    def test_the_pair_of_two_empty_texts(self):
        self.assertEqual(stepper_of(STILL), Stepper(((),), (0,)))
        self.assertEqual(stepper_of(Pacer(2, (0,), ((0, "", "", 1), (1, "", "", 0)), (1,))), Stepper(((),), (0,)))

    def test_empty_moves_and_rings_of_them(self):
        moves = ((0, "", "", 0), (0, "", "", 1), (1, "", "", 0), (1, "a", "b", 2), (2, "", "", 2), (2, "", "", 0))
        self.assertEqual(stepper_of(Pacer(3, (0,), moves, (1,))), ONE_STEPPER)
        self.assertEqual(stepper_of(Pacer(3, (1,), moves, (2,))), Stepper(((("a", "b", 1),), (("a", "b", 1),)), (1,)))

    def test_runs_ahead_by_four_letters_of_one_kind(self):
        pacer = Pacer(3, (0,), ((0, "aa", "", 1), (1, "aa", "", 2), (2, "a", "a", 2)), (2,))
        self.assertEqual(
            stepper_of(pacer),
            Stepper(
                ((("a", "-", 1), ("a", "a", 0)), (("a", "-", 2),), (("a", "-", 3),), (("a", "-", 4),), ()), (4,)
            ),
        )

    def test_runs_ahead_by_four_letters(self):
        stepper = stepper_of(FOUR_AHEAD)
        self.assertTrue(is_least(stepper))
        for left in texts_of("ab", 5):
            self.assertIs(stepper.tells(left, "aaab" + left), True)
            self.assertIs(stepper.tells(left, "baab" + left), True)
            self.assertIs(stepper.tells(left, "bbab" + left), False)
            self.assertIs(stepper.tells(left, "aaab" + left[::-1]), left == left[::-1])
            self.assertIs(stepper.tells(left, "aaab" + left + "a"), False)
            self.assertIs(stepper.tells(left, left), False)

    def test_is_caught_up(self):
        exchanged = {"a": "b", "b": "a"}
        stepper = stepper_of(CAUGHT_UP)
        self.assertTrue(is_least(stepper))
        self.assertIs(stepper.tells("", ""), True)
        for middle in texts_of("ab", 5):
            right = "".join(exchanged[letter] for letter in middle) + "abbb"
            self.assertIs(stepper.tells("aaab" + middle, right), True)
            self.assertIs(stepper.tells("aaab" + middle + "aaab", right + "abbb"), True)
            self.assertIs(stepper.tells("aabb" + middle, right), False)
            self.assertIs(stepper.tells("aaab" + middle, right[::-1]), right == right[::-1])

    def test_unlike_differences(self):
        self.assertEqual(
            stepper_of(DIAMOND),
            Stepper(
                (
                    (("-", "b", 1), ("a", "-", 2), ("a", "b", 3)),
                    (("-", "b", 4),),
                    (("a", "-", 5),),
                    (),
                    (("-", "b", 3),),
                    (("a", "-", 3),),
                ),
                (3,),
            ),
        )

    def test_useless_uneven_rings(self):
        self.assertEqual(stepper_of(USELESS_RINGS), Stepper(((("a", "b", 1),), ()), (1,)))

    def test_several_begins_and_ends(self):
        pacer = Pacer(3, (0, 2), ((0, "a", "", 1), (1, "", "b", 2)), (1, 2))
        self.assertEqual(stepper_of(pacer), Stepper(((("a", "-", 1), ("a", "b", 1)), ()), (0, 1)))

    def test_words_of_two_letters(self):
        pacer = Pacer(2, (0,), ((0, "ab", "b", 1), (1, "a", "ab", 0)), (0, 1))
        self.assertEqual(
            stepper_of(pacer),
            Stepper(((("a", "b", 1),), (("b", "-", 2), ("b", "a", 3)), (), (("a", "b", 0),)), (0, 2)),
        )

    def test_many_letters_written_ahead(self):
        pacer = Pacer(2, (0,), ((0, "abcabcabc", "", 1), (1, "", "xyzxyzxyz", 0)), (0,))
        letters = ["ax", "by", "cz"] * 3
        rows = tuple(((*letters[at], (at + 1) % 9),) for at in range(9))
        self.assertEqual(stepper_of(pacer), Stepper(rows, (0,)))

    def test_by_name(self):
        self.assertEqual(stepper_of(pacer=ONE), ONE_STEPPER)


class StepperOfTest(unittest.TestCase):
    def test_tells_the_same_pairs(self):
        for pacer in EVEN:
            stepper = stepper_of(pacer)
            self.assertIsInstance(stepper, Stepper)
            for left, right in itertools.product(TEXTS, repeat=2):
                self.assertIs(stepper.tells(left, right), pacer.tells(left, right), (str(pacer), left, right))

    def test_is_least(self):
        for pacer in EVEN:
            stepper = stepper_of(pacer)
            self.assertTrue(is_least(stepper), str(pacer))
            self.assertEqual(least(stepper), stepper)

    def test_nothing_is_told_exactly_if_there_is_no_spread(self):
        for pacer in EVEN:
            self.assertIs(stepper_of(pacer) == NONE_TOLD, spread(pacer) is None)

    def test_equal_for_pacers_put_otherwise(self):
        for pacer in (*EVEN[:60], FOUR_AHEAD, CAUGHT_UP, LONG_EVEN):
            stepper = stepper_of(pacer)
            for other in put_otherwise(pacer):
                self.assertEqual(stepper_of(other), stepper, str(pacer))

    def test_equal_exactly_if_the_same_pairs_are_told(self):
        told = {}
        for pacer in EVEN[-60:]:
            pairs = frozenset(pair for pair in itertools.product(TEXTS, repeat=2) if pacer.tells(*pair))
            told.setdefault(pairs, []).append(pacer)
        firsts = [stepper_of(pacers[0]) for pacers in told.values()]
        for one, other in itertools.combinations(firsts, 2):
            self.assertNotEqual(one, other)

    def test_turned_about_and_backward_and_back(self):
        for pacer in (*EVEN[:60], FOUR_AHEAD, CAUGHT_UP):
            turned, backward = stepper_of(pacer.turned()), stepper_of(pacer.backward())
            for left, right in itertools.product(TEXTS[:15], repeat=2):
                told = pacer.tells(left, right)
                self.assertIs(turned.tells(right, left), told)
                self.assertIs(backward.tells(left[::-1], right[::-1]), told)
            self.assertEqual(stepper_of(pacer_of(turned).turned()), stepper_of(pacer))
            self.assertEqual(stepper_of(pacer_of(backward).backward()), stepper_of(pacer))

    def test_uneven(self):
        for pacer in (*UNEVEN, WIDE, ONE | WIDE, SHIFT + WIDE.turned()):
            with self.assertRaises(Uneven) as caught:
                stepper_of(pacer)
            self.assertEqual(caught.exception.paper[0], "ring")
            self.assertIs(judge_holds(pacer, caught.exception.paper), True)

    def test_again_and_nothing_changes(self):
        for pacer in EVEN:
            before = (pacer.size, pacer.begins, pacer.moves, pacer.ends)
            self.assertEqual(stepper_of(pacer), stepper_of(pacer))
            self.assertEqual((pacer.size, pacer.begins, pacer.moves, pacer.ends), before)

    def test_many_states_in_step(self):
        pacer = Pacer(
            3,
            (0, 1, 2),
            (
                (0, "a", "b", 0),
                (1, "aa", "ba", 1),
                (0, "aa", "ba", 0),
                (1, "aa", "bb", 1),
                (0, "", "ab", 1),
                (1, "aa", "ab", 1),
                (1, "ab", "", 0),
                (2, "", "ba", 0),
            ),
            (0, 1, 2),
        )
        stepper = stepper_of(pacer)
        self.assertEqual(len(stepper), 309)
        self.assertTrue(only_useful(stepper) and only_rows(stepper))
        self.assertEqual(least(stepper), stepper)
        self.assertEqual(stepper_of(pacer_of(stepper)), stepper)


class PacerOfTest(unittest.TestCase):
    def test_tells_the_same_pairs(self):
        for stepper in (*DRAWN_STEPPERS, AHEAD):
            pacer = pacer_of(stepper)
            self.assertIsInstance(pacer, Pacer)
            for left, right in itertools.product(TEXTS, repeat=2):
                self.assertIs(pacer.tells(left, right), stepper.tells(left, right), (str(stepper), left, right))

    def test_its_stepper_is_the_least_one(self):
        for stepper in (*DRAWN_STEPPERS, AHEAD):
            self.assertIs(is_even(pacer_of(stepper)), True)
            self.assertEqual(stepper_of(pacer_of(stepper)), least(stepper), str(stepper))
        for pacer in EVEN:
            self.assertEqual(stepper_of(pacer_of(stepper_of(pacer))), stepper_of(pacer))

    def test_steps_that_are_no_rows_of_told_pairs(self):
        # Gone without a look at the signs ahead, these would tell ("ab", "b"), too.
        stepper = Stepper(((("a", "-", 1),), (("b", "b", 2),), ()), (1, 2))
        self.assertIs(pacer_of(stepper).tells("ab", "b"), False)
        self.assertIs(pacer_of(stepper).tells("a", ""), True)
        stepper = Stepper(((("-", "a", 1),), (("-", "b", 2), ("a", "-", 2)), ()), (2,))
        self.assertIs(pacer_of(stepper).tells("a", "a"), False)
        self.assertIs(pacer_of(stepper).tells("", "ab"), True)

    def test_nothing_is_told(self):
        for left, right in itertools.product(TEXTS, repeat=2):
            self.assertIs(pacer_of(NONE_TOLD).tells(left, right), False)

    def test_spread_of_the_told_pairs(self):
        self.assertEqual(spread(pacer_of(SHIFT_STEPPER)), (-1, -1))
        self.assertEqual(spread(pacer_of(AHEAD)), (-2, 1))
        self.assertIsNone(spread(pacer_of(NONE_TOLD)))

    def test_many_steps(self):
        letters = "abc"
        pairs = tuple((left, right, 0) for left in letters for right in letters)
        gaps = [step for letter in letters for step in (("-", letter, 1), (letter, "-", 5))]
        rows = [tuple(sorted((*pairs, *gaps)))]
        for first in (1, 5):
            for at in range(4):
                signs = [("-", letter) if first == 1 else (letter, "-") for letter in letters]
                rows.append(tuple((*pair, first + at + 1) for pair in signs) if at < 3 else ())
        stepper = Stepper(tuple(rows), tuple(range(9)))
        self.assertEqual(spread(pacer_of(stepper)), (-4, 4))
        found = stepper_of(pacer_of(stepper))
        self.assertEqual(found, least(stepper))
        self.assertTrue(is_least(found))

    def test_again_and_nothing_changes(self):
        for stepper in DRAWN_STEPPERS:
            before = (stepper.rows, stepper.ends)
            self.assertEqual(pacer_of(stepper), pacer_of(stepper))
            self.assertEqual((stepper.rows, stepper.ends), before)

    def test_by_name(self):
        self.assertIs(pacer_of(stepper=SAME).tells("ab", "ab"), True)


class InterfaceTest(unittest.TestCase):
    def test_defined_in_their_file(self):
        for function in (stepper_of, pacer_of):
            self.assertEqual(function.__module__, "evenlead.instep")
            self.assertIs(getattr(instep, function.__name__), function)
