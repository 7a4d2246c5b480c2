"""Promises 6 and 18: the text of a stepper, and what is no text of one."""

import unittest

from evenlead.errors import BadStepper, BadText
from evenlead.steppers import Stepper
from tests.test_steppers import AHEAD, DRAWN_STEPPERS
from tests.values import NONE_TOLD, ODD_VALUES, ONE, ONE_STEPPER, SAME, SHIFT_STEPPER

SHIFT_TEXT = (
    "stepper 3\nends 1\nstep 0 - a 1\nstep 0 a a 0\nstep 0 b a 2\nstep 2 - b 1\nstep 2 a b 0\nstep 2 b b 2"
)


class TextTest(unittest.TestCase):
    def test_written(self):
        self.assertEqual(str(SHIFT_STEPPER), SHIFT_TEXT)
        self.assertEqual(str(ONE_STEPPER), "stepper 1\nends 0\nstep 0 a b 0")
        self.assertEqual(str(NONE_TOLD), "stepper 1\nends -")
        self.assertEqual(str(Stepper(((), (("a", "-", 2),), ()), (0, 2))), "stepper 3\nends 0 2\nstep 1 a - 2")

    def test_there_and_back(self):
        for stepper in (*DRAWN_STEPPERS, AHEAD):
            text = str(stepper)
            again = Stepper.read(text)
            self.assertIsInstance(again, Stepper)
            self.assertEqual((again.rows, again.ends), (stepper.rows, stepper.ends))
            self.assertEqual(str(again), text)

    def test_a_state_without_steps_has_no_line(self):
        self.assertEqual(Stepper.read("stepper 3\nends 1\nstep 2 a a 0"), Stepper(((), (), (("a", "a", 0),)), (1,)))

    def test_as_many_states_as_three_digits_tell(self):
        rows = tuple((("a", "z", (at + 1) % 999),) for at in range(999))
        stepper = Stepper(rows, (0, 10, 998))
        self.assertEqual(Stepper.read(str(stepper)), stepper)

    def test_by_name(self):
        self.assertEqual(Stepper.read(text=SHIFT_TEXT), SHIFT_STEPPER)


class NoTextTest(unittest.TestCase):
    def fails(self, line, text):
        with self.subTest(text=text):
            with self.assertRaises(BadText) as caught:
                Stepper.read(text)
            self.assertEqual(caught.exception.line, line)
            self.assertNotIsInstance(caught.exception.line, bool)

    def test_no_string(self):
        for thing in (*ODD_VALUES, b"stepper 1", SAME, ONE, [SHIFT_TEXT], (SHIFT_TEXT,), {SHIFT_TEXT: 1}, True, 0):
            if not isinstance(thing, str):
                self.fails(0, thing)

    def test_odd_strings(self):
        for thing in ODD_VALUES:
            if isinstance(thing, str):
                self.fails(1, thing)

    def test_first_line(self):
        for line in (
            "",
            "stepper",
            "stepper ",
            "stepper -",
            "stepper 0",
            "stepper -1",
            "stepper +2",
            "stepper 02",
            "stepper 002",
            "stepper 1000",
            "stepper 0002",
            "stepper 2.0",
            "stepper 2 2",
            "stepper 2 ",
            " stepper 2",
            "stepper  2",
            "stepper a",
            "stepper\t2",
            "stepper 2\r",
            "Stepper 2",
            "steppers 2",
            "step 2",
            "pacer 2",
            "2 stepper",
            "stepper 2;ends 0",
            "stepper \u0662",
        ):
            self.fails(1, f"{line}\nends 0\nstep 0 a a 0")

    def test_line_of_ends(self):
        for ends in (
            "",
            " ",
            " - ",
            " - -",
            " - 0",
            " 0 -",
            " 0 0",
            " 1 0",
            " 0 2 1",
            " 3",
            " 0 3",
            " -1",
            " +1",
            " 00",
            " 01",
            " 0 01",
            " 1000",
            " 0001",
            " 0  1",
            "  0",
            " 0 ",
            " a",
            " 0,1",
            "0",
            "\t0",
            " True",
        ):
            self.fails(2, f"stepper 3\nends{ends}\nstep 0 a a 0")
        self.fails(2, "stepper 3\nbegins 0\nends 0")
        self.fails(2, "stepper 3\nstep 0 a a 0\nends 0")
        self.fails(2, "stepper 3\n\nends 0")
        self.fails(2, "stepper 3\nEnds 0")

    def test_missing_lines(self):
        self.fails(1, "")
        self.fails(2, "stepper 2")
        self.fails(2, "stepper 2\n")

    def test_lines_of_steps(self):
        for line in (
            "",
            " ",
            "step",
            "step ",
            "step 0 a b",
            "step 0 a b 1 0",
            "step 0 a b 1 ",
            " step 0 a b 1",
            "step  0 a b 1",
            "step 0  a b 1",
            "step 0 a  b 1",
            "step 0 a b  1",
            "step 0 a  1",
            "step 0  b 1",
            "step 2 a b 1",
            "step 0 a b 2",
            "step -1 a b 1",
            "step 0 a b -1",
            "step - a b 1",
            "step 0 a b -",
            "step 00 a b 1",
            "step 0 a b 01",
            "step 0 a b 001",
            "step 0000 a b 1",
            "step 0 a b 1000",
            "step 0 - - 1",
            "step 0 ab b 1",
            "step 0 a bb 1",
            "step 0 A b 1",
            "step 0 a B 1",
            "step 0 1 b 1",
            "step 0 a 1 1",
            "step 0 -- b 1",
            "step 0 a -- 1",
            "step a a b 1",
            "step 0 a b b",
            "Step 0 a b 1",
            "steps 0 a b 1",
            "move 0 a b 1",
            "0 a b 1",
            "ends 0",
            "step 0 a b 1\r",
            "step\t0 a b 1",
        ):
            self.fails(3, f"stepper 2\nends 1\n{line}")
            self.fails(4, f"stepper 2\nends 1\nstep 0 a a 1\n{line}\nstep 1 a b 1")

    def test_steps_that_are_not_ascending(self):
        good = "stepper 3\nends 1\nstep 1 a b 2"
        for line in (
            "step 0 a b 2",
            "step 0 z z 2",
            "step 1 a a 2",
            "step 1 a - 2",
            "step 1 - z 2",
            "step 1 a b 2",
            "step 1 a b 0",
            "step 1 a b 1",
        ):
            self.fails(4, f"{good}\n{line}")
            self.fails(4, f"{good}\n{line}\nstep 2 a b 2")
            self.fails(5, f"{good}\nstep 1 b a 0\n{line}")
        for line in ("step 1 a c 0", "step 1 b - 0", "step 2 - a 0"):
            self.assertEqual(str(Stepper.read(f"{good}\n{line}")), f"{good}\n{line}")

    def test_states_ascend_as_numbers(self):
        text = "stepper 11\nends 1\nstep 9 a b 0\nstep 10 a b 0"
        self.assertEqual(str(Stepper.read(text)), text)
        self.fails(4, "stepper 11\nends 1\nstep 10 a b 0\nstep 9 a b 0")

    def test_exchanged_lines(self):
        lines = SHIFT_TEXT.split("\n")
        for one in range(len(lines)):
            for other in range(one + 1, len(lines)):
                exchanged = list(lines)
                exchanged[one], exchanged[other] = lines[other], lines[one]
                # Among the steps it is the next line that is not ascending, ahead of them the first one that is wrong.
                self.fails(one + 1 if one < 2 else one + 2, "\n".join(exchanged))

    def test_a_line_feed_at_the_end(self):
        self.fails(9, SHIFT_TEXT + "\n")
        self.fails(3, "stepper 1\nends -\n")

    def test_the_first_line_that_is_not_as_described(self):
        good = ["stepper 2", "ends 1", "step 0 a b 1", "step 1 a a 0"]
        bad = ["stepper 0", "ends 1 0", "step 0 a b 2", "step 1 - - 0"]
        for chosen in range(1, 16):
            wrong = [bool(chosen >> at & 1) for at in range(4)]
            lines = [bad[at] if wrong[at] else good[at] for at in range(4)]
            self.fails(wrong.index(True) + 1, "\n".join(lines))

    def test_a_sign_put_otherwise(self):
        for at in range(len(SHIFT_TEXT)):
            line = SHIFT_TEXT[:at].count("\n") + 1
            self.fails(line, SHIFT_TEXT[:at] + "?" + SHIFT_TEXT[at + 1 :])
            self.fails(line, SHIFT_TEXT[:at] + "?" + SHIFT_TEXT[at:])


class DifferencesTest(unittest.TestCase):
    def test_behind_all_lines(self):
        for text in ("stepper 1\nends 0\nstep 0 a - 0", "stepper 2\nends 1\nstep 0 a b 1\nstep 1 - a 1"):
            with self.assertRaises(BadStepper) as caught:
                Stepper.read(text)
            self.assertEqual(caught.exception.part, "differences")
            with self.assertRaises(BadText) as caught:
                Stepper.read(text + "\nstep 0 a - 0")
            self.assertEqual(caught.exception.line, text.count("\n") + 2)

    def test_a_ring_of_gaps_that_is_let(self):
        text = "stepper 1\nends -\nstep 0 a - 0"
        self.assertEqual(str(Stepper.read(text)), text)
