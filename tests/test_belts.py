"""Promises 2, 15, 18 and 19: belts."""

import random
import unittest

from evenlead import belts
from evenlead.belts import Belt
from evenlead.errors import BadLetter, NothingToUndo
from evenlead.joining import all_within, turned
from evenlead.steppers import Stepper
from tests.oracles import told_pairs
from tests.test_answers import RINGS_OF_GAPS
from tests.test_joining import ALL, EMPTY_TOLD, GAPPED, MISLEADING, WRITTEN_OUT
from tests.test_least import twice, with_useless_steps
from tests.values import NONE_TOLD, ODD_VALUES, ONE_STEPPER, SAME, SHIFT_STEPPER

LETTERS = "abcdefghijklmnopqrstuvwxyz"
NO_LETTERS = (*ODD_VALUES, "A", "Z", "aa", "ab", "", " ", "-", "~", "1", "\n", "a\n", " a", "`", "{", ["a"], ("a",))


def can_go_on(stepper, left, right):
    """Whether the stepper tells a pair that begins with these texts: goes on sign by sign, as rows do."""
    places = {(0, 0, False, False)}
    waiting = list(places)
    longest = max(len(left), len(right))
    while waiting:
        state, at, left_over, right_over = waiting.pop()
        if at == longest and state in stepper.ends:
            return True
        for sign, other, further in stepper.rows[state]:
            fits = [
                over <= (mark == "-") and (mark == "-" or not over) and (at >= len(text) or text[at] == mark)
                for over, mark, text in ((left_over, sign, left), (right_over, other, right))
            ]
            place = (further, min(at + 1, longest), sign == "-", other == "-")
            if all(fits) and place not in places:
                places.add(place)
                waiting.append(place)
    return False


def states_of(belt):
    """All that a belt tells of itself."""
    return (
        belt.came,
        belt.can_go_on,
        belt.is_told,
        belt.next_left,
        belt.next_right,
        belt.held,
        len(belt),
    )


def expected(stepper, left, right):
    """All that a belt has to tell of itself where these texts came."""
    return (
        (left, right),
        can_go_on(stepper, left, right),
        stepper.tells(left, right),
        "".join(letter for letter in LETTERS if can_go_on(stepper, left + letter, right)),
        "".join(letter for letter in LETTERS if can_go_on(stepper, left, right + letter)),
        abs(len(left) - len(right)),
        len(left) + len(right),
    )


class DefinitionTest(unittest.TestCase):
    def test_the_definition_by_all_told_pairs(self):
        # The plain search is compared with the pairs themselves, where these are few and short.
        for stepper in WRITTEN_OUT:
            pairs = told_pairs(stepper, 8, 8)
            begun = {(left[:at], right[:beside]) for left, right in pairs for at in range(4) for beside in range(4)}
            for left in {left for left, _ in begun} | {"bb", "az"}:
                for right in {right for _, right in begun} | {"ab", "z"}:
                    if len(left) <= 3 and len(right) <= 3:
                        self.assertIs(can_go_on(stepper, left, right), (left, right) in begun)

    def test_letters_on_drawn_sides_in_drawn_orders(self):
        draw = random.Random(15)
        for stepper in ALL:
            belt = Belt(stepper)
            left, right = "", ""
            self.assertEqual(states_of(belt), expected(stepper, left, right))
            for _ in range(7):
                letter = self.drawn_letter(draw, belt)
                if draw.random() < 0.5:
                    left += letter
                    result = belt.take_left(letter)
                else:
                    right += letter
                    result = belt.take_right(letter)
                self.assertEqual(states_of(belt), expected(stepper, left, right), str(stepper))
                self.assertIs(result, can_go_on(stepper, left, right))

    def drawn_letter(self, draw, belt):
        """Mostly one with which it can go on."""
        return draw.choice((belt.next_left + belt.next_right) * 3 + "abz")

    def test_letters_and_undo(self):
        draw = random.Random(16)
        for stepper in GAPPED:
            belt = Belt(stepper)
            came = []
            for _ in range(16):
                if came and draw.random() < 0.35:
                    came.pop()
                    self.assertIsNone(belt.undo())
                else:
                    side, letter = draw.choice(("left", "right")), self.drawn_letter(draw, belt)
                    came.append((side, letter))
                    (belt.take_left if side == "left" else belt.take_right)(letter)
                left = "".join(letter for side, letter in came if side == "left")
                right = "".join(letter for side, letter in came if side == "right")
                self.assertEqual(states_of(belt), expected(stepper, left, right))

    def test_any_order_comes_to_the_same(self):
        draw = random.Random(17)
        for stepper in ALL:
            for left, right in sorted(told_pairs(stepper, 4, 4))[:12]:
                orders = [["left"] * len(left) + ["right"] * len(right), ["right"] * len(right) + ["left"] * len(left)]
                orders.append(draw.sample(orders[0], len(orders[0])))
                for order in orders:
                    belt = Belt(stepper)
                    for side in order:
                        on_left, on_right = belt.came
                        if side == "left":
                            self.assertIs(belt.take_left(left[len(on_left)]), True)
                        else:
                            self.assertIs(belt.take_right(right[len(on_right)]), True)
                    self.assertEqual(belt.came, (left, right))
                    self.assertIs(belt.is_told, True)


class WrittenOutTest(unittest.TestCase):
    def test_example(self):
        belt = Belt(SHIFT_STEPPER)
        self.assertIs(belt.take_right("a"), True)
        self.assertIs(belt.take_right("b"), True)
        self.assertEqual(belt.next_left, "b")
        self.assertIs(belt.take_left("a"), False)

    def test_at_first(self):
        belt = Belt(SAME)
        self.assertIs(belt.stepper, SAME)
        self.assertEqual(states_of(belt), (("", ""), True, True, "ab", "ab", 0, 0))
        self.assertEqual(states_of(Belt(NONE_TOLD)), (("", ""), False, False, "", "", 0, 0))
        self.assertEqual(states_of(Belt(EMPTY_TOLD)), (("", ""), True, True, "", "", 0, 0))
        self.assertEqual(states_of(Belt(SHIFT_STEPPER)), (("", ""), True, False, "ab", "a", 0, 0))

    def test_one_side_far_ahead(self):
        text = "abbaab" * 5
        for stepper in (SAME, SHIFT_STEPPER):
            belt = Belt(stepper)
            for at, letter in enumerate(text):
                self.assertIs(belt.take_left(letter), True)
                self.assertEqual((belt.held, len(belt)), (at + 1, at + 1))
            right = text if stepper == SAME else "a" + text
            for at, letter in enumerate(right):
                self.assertEqual(belt.next_right, letter)
                self.assertEqual(belt.next_left, "ab")
                self.assertIs(belt.is_told, False)
                self.assertIs(belt.take_right(letter), True)
                self.assertEqual(belt.held, abs(29 - at))
            self.assertEqual(belt.came, (text, right))
            self.assertIs(belt.is_told, True)

    def test_the_other_side_far_ahead(self):
        belt = Belt(all_within("ab", "c", 2))
        for _ in range(30):
            self.assertIs(belt.take_right("c"), True)
        self.assertEqual((belt.next_left, belt.next_right, belt.held), ("ab", "c", 30))
        for at, letter in enumerate("ab" * 15):
            self.assertIs(belt.take_left(letter), True)
            self.assertIs(belt.is_told, at >= 27)
        self.assertIs(belt.take_left("c"), False)

    def test_a_side_that_has_to_end(self):
        # The left text has one letter more, and no letter comes behind it on either side.
        belt = Belt(Stepper(((("a", "-", 1), ("a", "a", 0)), ()), (1,)))
        for _ in range(3):
            self.assertIs(belt.take_right("a"), True)
        self.assertEqual((belt.next_left, belt.next_right), ("a", "a"))
        for _ in range(4):
            self.assertIs(belt.take_left("a"), True)
        self.assertIs(belt.is_told, True)
        self.assertEqual((belt.next_left, belt.next_right), ("a", "a"))
        finite = Belt(Stepper(((("a", "-", 1),), (("b", "-", 2),), ()), (2,)))
        self.assertEqual((finite.next_left, finite.next_right), ("a", ""))
        self.assertIs(finite.take_right("a"), False)
        self.assertIsNone(finite.undo())
        self.assertIs(finite.take_left("a"), True)
        self.assertIs(finite.take_left("b"), True)
        self.assertEqual((finite.next_left, finite.next_right, finite.is_told), ("", "", True))

    def test_letters_that_cannot_go_on_are_put_there_too(self):
        belt = Belt(SAME)
        self.assertIs(belt.take_left("a"), True)
        self.assertIs(belt.take_right("b"), False)
        self.assertEqual(states_of(belt), (("a", "b"), False, False, "", "", 0, 2))
        self.assertIs(belt.take_left("b"), False)
        self.assertIs(belt.take_right("b"), False)
        self.assertEqual(belt.came, ("ab", "bb"))
        for _ in range(3):
            self.assertIs(belt.can_go_on, False)
            belt.undo()
        self.assertEqual(states_of(belt), (("a", ""), True, False, "ab", "a", 1, 1))
        self.assertIs(belt.take_right("a"), True)
        self.assertIs(belt.is_told, True)

    def test_a_letter_that_the_stepper_has_nowhere(self):
        for letter in LETTERS[2:]:
            belt = Belt(SAME)
            self.assertIs(belt.take_left(letter), False)
            self.assertIs(belt.take_right(letter), False)
            self.assertEqual(states_of(belt), ((letter, letter), False, False, "", "", 0, 2))

    def test_rings_and_steps_that_no_row_uses(self):
        belt = Belt(RINGS_OF_GAPS)
        self.assertEqual((belt.next_left, belt.next_right), ("a", "a"))
        self.assertIs(belt.take_left("a"), True)
        self.assertIs(belt.take_left("a"), False)
        belt = Belt(MISLEADING)
        self.assertEqual((belt.next_left, belt.next_right), ("a", "a"))
        self.assertIs(belt.take_right("b"), False)


class ErrorsTest(unittest.TestCase):
    def test_bad_letters(self):
        for before in ("", "a"):
            belt = Belt(SHIFT_STEPPER)
            for letter in before:
                belt.take_left(letter)
            told = states_of(belt)
            for thing in NO_LETTERS:
                if isinstance(thing, str) and thing in LETTERS and len(thing) == 1:
                    continue
                for take in (belt.take_left, belt.take_right):
                    with self.assertRaises(BadLetter) as caught:
                        take(thing)
                    self.assertIs(caught.exception.thing, thing)
                    self.assertEqual(states_of(belt), told)

    def test_nothing_to_undo(self):
        belt = Belt(SAME)
        for _ in range(2):
            with self.assertRaises(NothingToUndo):
                belt.undo()
            self.assertEqual(len(belt), 0)
        belt.take_left("a")
        belt.take_right("b")
        self.assertIsNone(belt.undo())
        self.assertIsNone(belt.undo())
        with self.assertRaises(NothingToUndo):
            belt.undo()
        self.assertEqual(states_of(belt), states_of(Belt(SAME)))

    def test_bad_letters_are_not_taken_back(self):
        belt = Belt(SAME)
        belt.take_left("b")
        with self.assertRaises(BadLetter):
            belt.take_right("B")
        belt.undo()
        self.assertEqual(belt.came, ("", ""))


class InterfaceTest(unittest.TestCase):
    def test_two_belts_know_nothing_of_one_another(self):
        one, other = Belt(SAME), Belt(SAME)
        one.take_left("a")
        self.assertEqual(states_of(other), states_of(Belt(SAME)))
        other.take_right("b")
        self.assertEqual((one.came, other.came), (("a", ""), ("", "b")))
        one.undo()
        self.assertEqual((len(one), len(other)), (0, 1))
        self.assertEqual(SAME, Stepper(((("a", "a", 0), ("b", "b", 0)),), (0,)))

    def test_reading_changes_nothing(self):
        belt = Belt(SHIFT_STEPPER)
        belt.take_right("a")
        for _ in range(3):
            self.assertEqual(states_of(belt), (("", "a"), True, True, "ab", "ab", 1, 1))

    def test_put_otherwise(self):
        for stepper in ALL:
            found = []
            for other in (stepper, twice(stepper), with_useless_steps(stepper)):
                belt = Belt(other)
                belt.take_right("a")
                belt.take_left("b")
                found.append(states_of(belt))
            self.assertEqual(found, found[:1] * 3)

    def test_turned_about(self):
        for stepper in ALL:
            one, other = Belt(stepper), Belt(turned(stepper))
            for letter in "ab":
                self.assertIs(one.take_left(letter), other.take_right(letter))
                self.assertEqual((one.next_left, one.next_right), (other.next_right, other.next_left))
                self.assertIs(one.is_told, other.is_told)

    def test_by_name(self):
        belt = Belt(stepper=ONE_STEPPER)
        self.assertIs(belt.take_left(letter="a"), True)
        self.assertIs(belt.take_right(letter="b"), True)

    def test_equal_to_itself_alone(self):
        belt = Belt(SAME)
        self.assertEqual(belt, belt)
        for thing in (*ODD_VALUES, SAME, ("", "")):
            self.assertNotEqual(belt, thing)

    def test_defined_in_its_class_and_file(self):
        self.assertEqual(Belt.__module__, "evenlead.belts")
        for name in ("take_left", "take_right", "undo", "__len__", "came", "can_go_on", "is_told", "held"):
            self.assertIn(name, vars(belts.Belt))
        self.assertTrue(all(isinstance(vars(Belt)[name], property) for name in ("next_left", "next_right", "came")))
