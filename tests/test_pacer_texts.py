"""Promises 6 and 18: the text of a pacer, and what is no text of one."""

import unittest

from evenlead.errors import BadText
from evenlead.pacers import Pacer
from tests.test_pacers import DRAWN
from tests.values import MUTE, ODD_VALUES, ONE, RINGS

ONE_TEXT = "pacer 2\nbegins 0\nends 0\nmove 0 a - 1\nmove 1 - b 0"


class TextTest(unittest.TestCase):
    def test_written(self):
        self.assertEqual(str(ONE), ONE_TEXT)
        self.assertEqual(str(MUTE), "pacer 1\nbegins -\nends -")
        self.assertEqual(
            str(RINGS),
            "pacer 4\nbegins 0 2\nends 1\nmove 0 - - 1\nmove 1 - - 0\nmove 1 ab - 2\nmove 2 - - 2\n"
            "move 2 - ba 0\nmove 2 - ba 0\nmove 0 b b 3",
        )

    def test_begins_and_ends_are_not_exchanged(self):
        pacer = Pacer(12, (0, 2, 10), (), (3, 11))
        self.assertEqual(str(pacer), "pacer 12\nbegins 0 2 10\nends 3 11")
        self.assertEqual(Pacer.read("pacer 12\nbegins 0 2 10\nends 3 11"), pacer)

    def test_moves_stay_in_the_order_of_the_tuple(self):
        pacer = Pacer(2, (), ((1, "b", "", 0), (0, "a", "", 1), (1, "a", "z", 1)), ())
        self.assertEqual(str(pacer), "pacer 2\nbegins -\nends -\nmove 1 b - 0\nmove 0 a - 1\nmove 1 a z 1")
        self.assertEqual(Pacer.read(str(pacer)).moves, pacer.moves)

    def test_there_and_back(self):
        for pacer in DRAWN:
            text = str(pacer)
            again = Pacer.read(text)
            self.assertIsInstance(again, Pacer)
            self.assertEqual(again, pacer)
            self.assertEqual(str(again), text)

    def test_as_many_states_as_three_digits_tell(self):
        pacer = Pacer(999, (0, 998), ((998, "a", "", 100),), (7, 10, 997))
        self.assertEqual(Pacer.read(str(pacer)), pacer)

    def test_by_name(self):
        self.assertEqual(Pacer.read(text=ONE_TEXT), ONE)


class NoTextTest(unittest.TestCase):
    def fails(self, line, text):
        with self.subTest(text=text):
            with self.assertRaises(BadText) as caught:
                Pacer.read(text)
            self.assertEqual(caught.exception.line, line)
            self.assertNotIsInstance(caught.exception.line, bool)

    def test_no_string(self):
        for thing in (*ODD_VALUES, b"pacer 1", ONE, [ONE_TEXT], (ONE_TEXT,), {ONE_TEXT: 1}, True, 0):
            if not isinstance(thing, str):
                self.fails(0, thing)

    def test_odd_strings(self):
        for thing in ODD_VALUES:
            if isinstance(thing, str):
                self.fails(1, thing)

    def test_first_line(self):
        for line in (
            "",
            "pacer",
            "pacer ",
            "pacer -",
            "pacer 0",
            "pacer -1",
            "pacer +2",
            "pacer 02",
            "pacer 002",
            "pacer 00",
            "pacer 1000",
            "pacer 0002",
            "pacer 2.0",
            "pacer 2 2",
            "pacer 2 ",
            " pacer 2",
            "pacer  2",
            "pacer a",
            "pacer 1_0",
            "pacer two",
            "pacer\t2",
            "pacer 2\r",
            "Pacer 2",
            "pace 2",
            "pacers 2",
            "stepper 2",
            "2 pacer",
            "pacer 2;begins 0",
            "pacer \u0662",
            "pacer \u00b2",
        ):
            self.fails(1, f"{line}\nbegins 0\nends 0\nmove 0 a - 1")

    def test_lines_of_states(self):
        for states in (
            "",
            " ",
            " - ",
            " -  ",
            " - -",
            " - 0",
            " 0 -",
            " 0 0",
            " 1 0",
            " 0 2 1",
            " 3",
            " 0 3",
            " 0 1 2 3",
            " -1",
            " -0",
            " +1",
            " 00",
            " 01",
            " 0 01",
            " 1000",
            " 0001",
            " 0  1",
            "  0",
            " 0 ",
            " a",
            " 0 a",
            " 0,1",
            "0",
            " 1.0",
            " True",
            " None",
            "\t0",
            " 0\t1",
        ):
            self.fails(2, f"pacer 3\nbegins{states}\nends 0\nmove 0 a - 1")
            self.fails(3, f"pacer 3\nbegins 0\nends{states}\nmove 0 a - 1")

    def test_other_first_words(self):
        self.fails(2, "pacer 2\nends 0\nbegins 0\nmove 0 a - 1")
        self.fails(3, "pacer 2\nbegins 0\nbegins 0\nmove 0 a - 1")
        self.fails(3, "pacer 2\nbegins 0\nmove 0 a - 1\nends 0")
        self.fails(2, "pacer 2\nBegins 0\nends 0")
        self.fails(3, "pacer 2\nbegins 0\nend 0")
        self.fails(2, "pacer 2\n\nbegins 0\nends 0")
        self.fails(2, "pacer 2\npacer 2\nbegins 0\nends 0")

    def test_missing_lines(self):
        self.fails(1, "")
        self.fails(2, "pacer 2")
        self.fails(3, "pacer 2\nbegins 0")
        self.fails(2, "pacer 2\n")
        self.fails(3, "pacer 2\nbegins -\n")

    def test_lines_of_moves(self):
        for line in (
            "",
            " ",
            "move",
            "move ",
            "move 0 a b",
            "move 0 a b 1 0",
            "move 0 a b 1 ",
            " move 0 a b 1",
            "move  0 a b 1",
            "move 0  a b 1",
            "move 0 a  b 1",
            "move 0 a b  1",
            "move 0  b 1",
            "move 0 a  1",
            "move 2 a b 1",
            "move 0 a b 2",
            "move -1 a b 1",
            "move 0 a b -1",
            "move - a b 1",
            "move 0 a b -",
            "move 00 a b 1",
            "move 0 a b 01",
            "move 0 a b 001",
            "move 0000 a b 1",
            "move 0 a b 1000",
            "move a a b 1",
            "move 0 a b b",
            "move 0 A b 1",
            "move 0 a B 1",
            "move 0 a1 b 1",
            "move 0 a - -",
            "move 0 -- b 1",
            "move 0 a -- 1",
            "move 0 a- b 1",
            "move 0 a b- 1",
            "move 0 a,b 1",
            "Move 0 a b 1",
            "moves 0 a b 1",
            "step 0 a b 1",
            "0 a b 1",
            "ends 0",
            "move 0 a b 1\r",
        ):
            self.fails(4, f"pacer 2\nbegins 0\nends 0\n{line}")
            self.fails(5, f"pacer 2\nbegins 0\nends 0\nmove 0 a - 1\n{line}\nmove 0 a b 1")

    def test_a_line_feed_at_the_end(self):
        self.fails(6, ONE_TEXT + "\n")
        self.fails(4, "pacer 1\nbegins -\nends -\n")

    def test_the_first_line_that_is_not_as_described(self):
        good = ["pacer 2", "begins 0", "ends 1", "move 0 a b 1", "move 1 - - 0"]
        bad = ["pacer 0", "begins 2", "ends 1 0", "move 0 a b 2", "move 1 - 0"]
        for chosen in range(1, 32):
            wrong = [bool(chosen >> at & 1) for at in range(5)]
            lines = [bad[at] if wrong[at] else good[at] for at in range(5)]
            self.fails(wrong.index(True) + 1, "\n".join(lines))

    def test_a_sign_put_otherwise(self):
        for at in range(len(ONE_TEXT)):
            line = ONE_TEXT[:at].count("\n") + 1
            self.fails(line, ONE_TEXT[:at] + "?" + ONE_TEXT[at + 1 :])
            self.fails(line, ONE_TEXT[:at] + "?" + ONE_TEXT[at:])
