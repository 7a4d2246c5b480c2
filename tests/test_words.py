"""Promises 4, 18 and 19: texts, signs, rows and pairs."""

import itertools
import unittest

from evenlead import words
from evenlead.words import is_row, is_sign, is_text, pair_of, row_of
from tests.values import ODD_VALUES, nested

LETTERS = "abcdefghijklmnopqrstuvwxyz"
SHORT_TEXTS = ["".join(letters) for many in range(4) for letters in itertools.product("ab", repeat=many)]
SOME_TEXTS = ("", "a", "z", "ab", "zz", "abc", "x" * 2000, LETTERS)


class IsTextTest(unittest.TestCase):
    def test_texts(self):
        for text in (*SOME_TEXTS, *LETTERS, *SHORT_TEXTS):
            with self.subTest(text=text):
                self.assertIs(is_text(text), True)

    def test_each_other_sign_is_none(self):
        others = [chr(code) for code in range(128) if chr(code) not in LETTERS]
        for sign in others:
            for text in (sign, sign + "a", "a" + sign, "a" + sign + "b"):
                with self.subTest(text=text):
                    self.assertIs(is_text(text), False)

    def test_letters_beyond_z_are_none(self):
        for text in ("\u00e4", "a\u00df", "\u0430", "\u0661"):
            with self.subTest(text=text):
                self.assertIs(is_text(text), False)

    def test_values_of_other_kinds(self):
        for thing in ODD_VALUES:
            if not isinstance(thing, str):
                with self.subTest(thing=thing):
                    self.assertIs(is_text(thing), False)
        for thing in (b"a", ["a"], ("a",), {"a": "a"}, nested(30, list)):
            with self.subTest(thing=thing):
                self.assertIs(is_text(thing), False)

    def test_by_name(self):
        self.assertIs(is_text(thing="a"), True)
        self.assertIs(is_text(thing=None), False)


class IsSignTest(unittest.TestCase):
    def test_a_letter_or_the_sign_of_none(self):
        for code in range(128):
            with self.subTest(code=code):
                self.assertIs(is_sign(chr(code)), chr(code) in LETTERS or chr(code) == "-")

    def test_longer_and_empty_strings_and_other_values(self):
        for thing in ("", "ab", "--", "a-", "-a", None, True, 0, ("a",), ["-"]):
            with self.subTest(thing=thing):
                self.assertIs(is_sign(thing), False)


class RowOfTest(unittest.TestCase):
    def test_the_example(self):
        self.assertEqual(row_of("ab", "c"), (("a", "c"), ("b", "-")))

    def test_longer_on_each_side(self):
        self.assertEqual(row_of("", ""), ())
        self.assertEqual(row_of("a", ""), (("a", "-"),))
        self.assertEqual(row_of("", "a"), (("-", "a"),))
        self.assertEqual(row_of("ab", "xy"), (("a", "x"), ("b", "y")))
        self.assertEqual(row_of("abc", "x"), (("a", "x"), ("b", "-"), ("c", "-")))
        self.assertEqual(row_of("a", "xyz"), (("a", "x"), ("-", "y"), ("-", "z")))
        self.assertEqual(row_of("", "xy"), (("-", "x"), ("-", "y")))

    def test_a_tuple_of_tuples(self):
        row = row_of("ab", "c")
        self.assertIsInstance(row, tuple)
        for pair in row:
            self.assertIsInstance(pair, tuple)

    def test_by_name(self):
        self.assertEqual(row_of(right="c", left="ab"), (("a", "c"), ("b", "-")))


class PairOfTest(unittest.TestCase):
    def test_gives_the_pair_back(self):
        for left, right in itertools.product((*SHORT_TEXTS, *SOME_TEXTS), repeat=2):
            with self.subTest(left=left, right=right):
                self.assertEqual(pair_of(row_of(left, right)), (left, right))

    def test_written_out(self):
        self.assertEqual(pair_of(()), ("", ""))
        self.assertEqual(pair_of((("-", "x"), ("-", "y"))), ("", "xy"))
        self.assertEqual(pair_of(row=(("a", "c"), ("b", "-"))), ("ab", "c"))
        self.assertIsInstance(pair_of(()), tuple)


class IsRowTest(unittest.TestCase):
    def test_rows_of_pairs(self):
        for left, right in itertools.product((*SHORT_TEXTS, *SOME_TEXTS), repeat=2):
            with self.subTest(left=left, right=right):
                self.assertIs(is_row(row_of(left, right)), True)

    def test_exactly_the_rows_among_all_tuples_of_pairs_of_signs(self):
        texts = SHORT_TEXTS
        rows = [row_of(left, right) for left in texts for right in texts]
        pairs = list(itertools.product("ab-", repeat=2))
        for many in range(4):
            for thing in itertools.product(pairs, repeat=many):
                self.assertIs(is_row(thing), thing in rows, thing)

    def test_something_otherwise_is_no_row(self):
        for thing in (
            (("-", "-"),),
            (("a", "b"), ("-", "-")),
            (("-", "-"), ("a", "b")),
            (("-", "a"), ("b", "c")),
            (("a", "-"), ("b", "c")),
            (("a", "-"), ("-", "b")),
            (("-", "a"), ("b", "-")),
            (("a", "b"), ("-", "c"), ("d", "e")),
            (("a",), ("b", "c")),
            (("a", "b", "c"),),
            (("a", "b"), ()),
            (("ab", "c"),),
            (("", "c"),),
            (("c", ""),),
            (("a", "B"),),
            (("A", "b"),),
            (("a", "--"),),
            (("a", " "),),
            (("a", None),),
            ((None, "a"),),
            (("a", 0),),
            ((True, "a"),),
            (("a", ("b",)),),
            (("a", ["b"]),),
            (["a", "b"],),
            [("a", "b")],
            (("a", "b"), ["c", "-"]),
            ("ab",),
            ("ab", "cd"),
            "ab",
            {("a", "b"): ("c", "d")},
            ({"a": "b", "c": "d"},),
            (((("a", "b"),),),),
            (None,),
            (0,),
        ):
            with self.subTest(thing=thing):
                self.assertIs(is_row(thing), False)

    def test_values_of_other_kinds(self):
        for thing in ODD_VALUES:
            with self.subTest(thing=thing):
                self.assertIs(is_row(thing), thing == () or thing == (("a", "b"),))

    def test_by_name(self):
        self.assertIs(is_row(thing=(("a", "-"),)), True)
        self.assertIs(is_row(thing=[]), False)


class InterfaceTest(unittest.TestCase):
    def test_defined_in_their_file(self):
        for function in (is_text, row_of, is_row, pair_of):
            with self.subTest(name=function.__name__):
                self.assertEqual(function.__module__, "evenlead.words")
                self.assertIs(getattr(words, function.__name__), function)

    def test_equal_results_and_unchanged_arguments(self):
        thing = [["a", "b"], {"c": ["-"]}]
        self.assertIs(is_row(thing), False)
        self.assertIs(is_text(thing), False)
        self.assertEqual(thing, [["a", "b"], {"c": ["-"]}])
        self.assertEqual(row_of("ab", "c"), row_of("ab", "c"))
