"""Promises 2, 3, 13, 15, 16, 17 and 19 over the whole program: its modules beside one another."""

import itertools
import random
import unittest

from evenlead.answers import answers, two_answers
from evenlead.belts import Belt
from evenlead.comparing import is_part, missing, parting
from evenlead.console import Console
from evenlead.counting import how_many, index_of, is_finite, pair_at
from evenlead.errors import Uneven
from evenlead.findings import finding_holds
from evenlead.instep import pacer_of, stepper_of
from evenlead.joining import all_within, backward, behind, both, either, same_left, through, turned, without
from evenlead.leads import judge, judge_holds, spread
from evenlead.pacers import Pacer
from evenlead.steppers import Stepper, least
from evenlead.words import is_row, pair_of, row_of
from tests.oracles import in_order, told_pairs
from tests.test_instep import CAUGHT_UP, EVEN, FOUR_AHEAD, UNEVEN
from tests.test_joining import ALL
from tests.test_together import exchanged
from tests.values import MUTE, NONE_TOLD, ONE, SAME, SHIFT, STILL, WIDE

PACERS = [*EVEN[:40], *EVEN[-30:], ONE, SHIFT, MUTE, STILL, FOUR_AHEAD, CAUGHT_UP]
STEPPERS = [stepper_of(pacer) for pacer in PACERS]


def word_of(text):
    return text or "-"


def keep(console, pacer, head="keep"):
    return console.run(f"{head} {pacer}".replace("\n", ";"))


def belt_of(stepper, left, right):
    """A belt on which these texts came."""
    belt = Belt(stepper)
    for letter in left:
        belt.take_left(letter)
    for letter in right:
        belt.take_right(letter)
    return belt


class ExamplesTest(unittest.TestCase):
    def test_all_examples(self):
        self.assertEqual((ONE.tells("aa", "bb"), ONE.tells("a", "")), (True, False))
        self.assertIs(judge_holds(ONE, ("leads", ((0, 0, 0), (1, 1, 1)))), True)
        self.assertIs(judge_holds(WIDE, ("ring", 0, (), (0,), ())), True)
        self.assertEqual(spread(SHIFT), (-1, -1))
        self.assertEqual(stepper_of(ONE), Stepper(((("a", "b", 0),),), (0,)))
        rows = (("-", "a", 1), ("a", "a", 0), ("b", "a", 2)), (), (("-", "b", 1), ("a", "b", 0), ("b", "b", 2))
        self.assertEqual(stepper_of(SHIFT), Stepper(rows, (1,)))
        self.assertEqual(row_of("ab", "c"), (("a", "c"), ("b", "-")))
        self.assertEqual(all_within("a", "b", 0), stepper_of(ONE))
        same = Stepper(((("a", "a", 0), ("b", "b", 0)),), (0,))
        self.assertEqual(parting(stepper_of(SHIFT), same), ("", ""))
        self.assertEqual(answers(stepper_of(SHIFT), "ba"), ("aba",))
        self.assertEqual((how_many(same, 3), pair_at(same, 2)), (8, ("b", "b")))
        self.assertEqual(two_answers(all_within("a", "bc", 0)), ("a", "b", "c"))
        belt = Belt(stepper_of(SHIFT))
        self.assertEqual((belt.take_right("a"), belt.take_right("b"), belt.next_left), (True, True, "b"))
        self.assertIs(belt.take_left("a"), False)
        console = Console()
        self.assertEqual(console.run("keep pacer 2;begins 0;ends 0;move 0 a - 1;move 1 - b 0"), "1")
        self.assertEqual((console.run("is aa bb"), console.run("first")), ("yes", "- -"))
        self.assertEqual(console.run("join pacer 1;begins 0;ends 0;move 0 a bb 0"), "uneven")


class TextsTest(unittest.TestCase):
    def test_even_pacers(self):
        for pacer, stepper in zip(PACERS, STEPPERS):
            text = str(pacer)
            self.assertEqual(Pacer.read(text), pacer)
            self.assertEqual(stepper_of(Pacer.read(text)), stepper)
            _, bounds = judge(pacer)
            self.assertIs(finding_holds(("even", text, bounds)), True)
            self.assertIs(finding_holds(("spread", text, *(spread(pacer) or (0, 0)))), stepper != NONE_TOLD)
            console = Console()
            self.assertEqual(keep(console, pacer), str(len(stepper)))
            for index in range(6):
                pair = pair_at(stepper, index)
                if pair is not None:
                    self.assertIs(pacer.tells(*pair), True)
                    self.assertIs(finding_holds(("told", text, *pair)), True)
                    self.assertEqual(console.run(f"is {word_of(pair[0])} {word_of(pair[1])}"), "yes")
            self.assertIs(finding_holds(("alike", str(stepper), str(stepper_of(pacer_of(stepper))))), True)

    def test_uneven_pacers(self):
        for pacer in UNEVEN[:25]:
            paper = judge(pacer)
            self.assertIs(finding_holds(("uneven", str(pacer), *paper[1:])), True)
            with self.assertRaises(Uneven) as caught:
                stepper_of(Pacer.read(str(pacer)))
            self.assertIs(finding_holds(("uneven", str(pacer), *caught.exception.paper[1:])), True)
            self.assertEqual(keep(Console(), pacer), "uneven")

    def test_steppers(self):
        for stepper, other in zip(STEPPERS, STEPPERS[1:]):
            self.assertEqual(Stepper.read(str(stepper)), stepper)
            self.assertIs(finding_holds(("alike", str(stepper), str(other))), stepper == other)
            pair = parting(stepper, other)
            if pair is not None:
                self.assertIs(finding_holds(("parting", str(stepper), str(other), *pair)), True)
            for left in ("", "a", "ba"):
                self.assertIs(finding_holds(("answers", str(stepper), left, answers(stepper, left))), True)
            for length in (0, 2, 5):
                self.assertIs(finding_holds(("many", str(stepper), length, how_many(stepper, length))), True)


class LettersTest(unittest.TestCase):
    def test_called_otherwise_in_the_same_order(self):
        # Everything is as it was but for the letters, with the same numbers of states and of pairs.
        for pacer, stepper in zip(PACERS, STEPPERS):
            other = stepper_of(exchanged(pacer, {"a": "k", "b": "q"}, {"a": "f", "b": "z"}))
            rows = [
                tuple(("-kq"["-ab".index(left)], "-fz"["-ab".index(right)], further) for left, right, further in row)
                for row in stepper.rows
            ]
            self.assertEqual(other, Stepper(tuple(rows), stepper.ends))
            for index in range(8):
                pair = pair_at(stepper, index)
                if pair is not None:
                    left, right = pair_at(other, index)
                    called = (left.replace("k", "a").replace("q", "b"), right.replace("f", "a").replace("z", "b"))
                    self.assertEqual(called, pair)

    def test_exchanged(self):
        both_letters = {"a": "b", "b": "a"}
        for pacer, stepper in zip(PACERS, STEPPERS):
            for on_left, on_right in ((both_letters, {}), ({}, both_letters), (both_letters, both_letters)):
                other = stepper_of(exchanged(pacer, on_left, on_right))
                self.assertEqual((len(other), len(other.ends)), (len(stepper), len(stepper.ends)))
                for length in (0, 1, 4, 60):
                    self.assertEqual(how_many(other, length), how_many(stepper, length))
                self.assertIs(is_finite(other), is_finite(stepper))
                back = stepper_of(exchanged(pacer_of(other), on_left, on_right))
                self.assertEqual(back, stepper)


class NumbersTest(unittest.TestCase):
    def test_either_and_both_together(self):
        for one, other in zip(STEPPERS, STEPPERS[2:]):
            for length in (0, 1, 2, 3, 8, 60):
                together = how_many(either(one, other), length) + how_many(both(one, other), length)
                self.assertEqual(together, how_many(one, length) + how_many(other, length))

    def test_all_pairs_in_order_by_pair_at(self):
        for stepper in (*STEPPERS, *ALL):
            pairs = []
            while len(pairs) < 40 and pair_at(stepper, len(pairs)) is not None:
                pairs.append(pair_at(stepper, len(pairs)))
            self.assertEqual(in_order(pairs), pairs)
            longest = max([len(row_of(*pair)) for pair in pairs[-1:]], default=0)
            if longest <= 6:
                short = in_order(told_pairs(stepper, longest, longest))
                self.assertEqual(short[: len(pairs)], pairs)
            for index, pair in enumerate(pairs):
                self.assertIs(stepper.tells(*pair), True)
                self.assertEqual(index_of(stepper, *pair), index)
                self.assertEqual(pair_of(row_of(*pair)), pair)
                self.assertIs(is_row(row_of(*pair)), True)

    def test_pairs_ahead_of_the_one_that_parts(self):
        for one, other in zip(STEPPERS, STEPPERS[1:]):
            pair = parting(one, other)
            if pair is not None:
                teller = one if one.tells(*pair) else other
                index = index_of(teller, *pair)
                first = [pair_at(one, at) for at in range(min(index, 20))]
                self.assertEqual([pair_at(other, at) for at in range(min(index, 20))], first)

    def test_taken_away_one_by_one(self):
        for stepper in STEPPERS[::3]:
            left_over = stepper
            for index in range(4):
                pair = pair_at(stepper, index)
                self.assertEqual(missing(left_over, NONE_TOLD), pair)
                if pair is not None:
                    rows = [((left, right, at + 1),) for at, (left, right) in enumerate(row_of(*pair))]
                    left_over = without(left_over, Stepper((*rows, ()), (len(rows),)))


class DifferencesTest(unittest.TestCase):
    def test_parted_by_their_differences_and_joined_again(self):
        for pacer, stepper in zip(PACERS, STEPPERS):
            low, high = spread(pacer) or (0, 0)
            parts = [both(stepper, self.with_difference(number)) for number in range(low - 1, high + 2)]
            joined = NONE_TOLD
            for number, part in zip(range(low - 1, high + 2), parts):
                self.assertIn(spread(pacer_of(part)), (None, (number, number)))
                self.assertEqual(both(joined, part), NONE_TOLD)
                joined = either(joined, part)
            self.assertEqual(joined, stepper)
            self.assertEqual((parts[0], parts[-1]), (NONE_TOLD, NONE_TOLD))
            for length in (1, 5, 20):
                self.assertEqual(sum(how_many(part, length) for part in parts), how_many(stepper, length))

    def with_difference(self, number):
        """All pairs with just this difference."""
        if number < 0:
            return turned(self.with_difference(-number))
        moves = tuple((at, letter, "", at + 1) for at in range(number) for letter in "ab")
        return behind(all_within("ab", "ab", 0), stepper_of(Pacer(number + 1, (0,), moves, (number,))))


class BeltsTest(unittest.TestCase):
    def test_of_joined_steppers_beside_those_of_each(self):
        draw = random.Random(9)
        for one, other in zip(STEPPERS, STEPPERS[1:]):
            joined_ones = [function(one, other) for function in (either, both, without)]
            belts = [Belt(stepper) for stepper in (one, other, *joined_ones)]
            for _ in range(8):
                first, second, joined, cut, less = belts
                self.assertIs(joined.can_go_on, first.can_go_on or second.can_go_on)
                self.assertIs(joined.is_told, first.is_told or second.is_told)
                self.assertEqual(set(joined.next_left), set(first.next_left + second.next_left))
                self.assertEqual(set(joined.next_right), set(first.next_right + second.next_right))
                self.assertIs(cut.is_told, first.is_told and second.is_told)
                self.assertTrue(not cut.can_go_on or (first.can_go_on and second.can_go_on))
                self.assertIs(less.is_told, first.is_told and not second.is_told)
                self.assertIs(first.can_go_on, cut.can_go_on or less.can_go_on)
                letter = draw.choice(joined.next_left + joined.next_right + "a")
                side = draw.choice(("take_left", "take_right"))
                for belt in belts:
                    getattr(belt, side)(letter)

    def test_letters_of_told_pairs_in_any_order(self):
        draw = random.Random(10)
        for stepper in STEPPERS:
            for index in (0, 3, 11, 40):
                pair = pair_at(stepper, index)
                if pair is not None:
                    found = [self.all_of(self.taken(stepper, *pair, draw)) for _ in range(3)]
                    self.assertEqual(found, [self.all_of(belt_of(stepper, *pair))] * 3)

    def taken(self, stepper, left, right, draw):
        """A belt on which the letters of a told pair came in a drawn order, and could always go on."""
        belt = Belt(stepper)
        while belt.came != (left, right):
            on_left, on_right = map(len, belt.came)
            if on_left < len(left) and (on_right == len(right) or draw.random() < 0.5):
                self.assertIn(left[on_left], belt.next_left)
                self.assertIs(belt.take_left(left[on_left]), True)
            else:
                self.assertIn(right[on_right], belt.next_right)
                self.assertIs(belt.take_right(right[on_right]), True)
        self.assertIs(belt.is_told, True)
        return belt

    def all_of(self, belt):
        return belt.came, belt.can_go_on, belt.is_told, belt.next_left, belt.next_right, belt.held, len(belt)

    def test_answers_found_by_belts(self):
        for stepper in STEPPERS:
            for left in ("", "a", "ba", "abb"):
                found = []
                belt = belt_of(stepper, left, "")
                self.collect(belt, len(left), found)
                self.assertEqual(tuple(found), answers(stepper, left))
                self.assertEqual(belt.came, (left, ""))

    def collect(self, belt, many, found):
        """All right texts with which just what came is told, each letter taken back again."""
        if belt.is_told:
            found.append(belt.came[1])
        # No pacer here has pairs whose right text is longer by more than this.
        if len(belt.came[1]) < many + 5:
            for letter in belt.next_right:
                belt.take_right(letter)
                self.collect(belt, many, found)
                belt.undo()

    def test_behind_and_backward(self):
        for stepper in STEPPERS:
            for index in range(5):
                pair = pair_at(stepper, index)
                if pair is not None:
                    left, right = pair
                    self.assertIs(belt_of(backward(stepper), left[::-1], right[::-1]).is_told, True)
                    self.assertIs(belt_of(turned(stepper), right, left).is_told, True)
                    self.assertIs(belt_of(same_left(stepper), left, left).is_told, True)


class ConsoleTest(unittest.TestCase):
    def test_beside_the_functions_that_it_rests_on(self):
        for at, (one, other) in enumerate(zip(PACERS, PACERS[1:])):
            console = Console()
            keep(console, one)
            kept = STEPPERS[at]
            for head, function in (("join", either), ("less", without), ("cut", both)):
                kept = function(kept, stepper_of(other))
                self.assertEqual(keep(console, other, head), str(len(kept)))
                kept = turned(kept)
                self.assertEqual(console.run("turn"), str(len(kept)))
                first = pair_at(kept, 0)
                due = "none" if first is None else " ".join(word_of(text) for text in first)
                self.assertEqual(console.run("first"), due)
                self.assertEqual(console.run("many 4"), str(how_many(kept, 4)))
                due = " ".join(word_of(text) for text in answers(kept, "ab")) or "none"
                self.assertEqual(console.run("answers ab"), due)
            for _ in range(7):
                console.run("undo")
            self.assertEqual(console.run("first"), "none")


class ReturnedValuesTest(unittest.TestCase):
    def test_what_is_returned_can_be_passed_on(self):
        # Beyond the limits: more states, greater differences, longer texts.
        far = behind(all_within("ab", "ab", 4), all_within("ab", "ab", 4))
        ahead = stepper_of(FOUR_AHEAD)
        wide = behind(ahead, ahead)
        self.assertEqual((len(wide), spread(pacer_of(wide))), (1215, (-8, -8)))
        self.assertIs(is_part(wide, far), True)
        self.assertEqual(missing(far, all_within("ab", "ab", 4)), ("", "aaaaa"))
        self.assertEqual((both(wide, far), both(wide, all_within("ab", "ab", 4))), (wide, NONE_TOLD))
        self.assertEqual(backward(backward(wide)), wide)
        self.assertEqual(through(wide, SAME), wide)
        pair = pair_at(wide, 5000)
        self.assertEqual(index_of(wide, *pair), 5000)
        self.assertIs(belt_of(wide, *pair).is_told, True)
        self.assertIn(pair[1], answers(wide, pair[0]))
        self.assertIs(finding_holds(("told", str(pacer_of(ahead)), pair[0], pair[1])), False)
        self.assertIs(finding_holds(("told", str(FOUR_AHEAD + FOUR_AHEAD), *pair)), True)
        self.assertIs(finding_holds(("alike", str(far), str(all_within("ab", "ab", 8)))), True)

    def test_long_texts(self):
        stepper = stepper_of(SHIFT)
        left = "ab" * 40
        self.assertEqual(answers(stepper, left), ("a" + left,))
        self.assertEqual(pair_at(stepper, index_of(stepper, left, "a" + left)), (left, "a" + left))
        self.assertIs(belt_of(stepper, left, "a" + left).is_told, True)

    def test_least_steppers_of_all_that_is_made(self):
        for one, other in itertools.islice(zip(STEPPERS, STEPPERS[5:]), 25):
            for function in (both, either, without, through):
                self.assertEqual(least(function(one, other)), function(one, other))
            self.assertEqual(through(SAME, through(one, SAME)), one)
