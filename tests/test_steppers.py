"""Promises 2, 8, 18 and 19: steppers, which parts make one, and what they tell."""

import itertools
import random
import unittest

from evenlead.errors import BadStepper
from evenlead.pacers import Pacer
from evenlead.steppers import Stepper, least
from tests.oracles import difference_has_no_bound, drawn_rows, drawn_steppers, texts_of, told_by_rows
from tests.values import NONE_TOLD, ODD_VALUES, ONE, ONE_STEPPER, SAME, SHIFT_STEPPER, STEPPERS

DRAWN_STEPPERS = [*STEPPERS, *drawn_steppers(80)]
TEXTS = texts_of("ab", 3)

# One letter more on the left, or two on the right; letters of all kinds.
AHEAD = Stepper(
    (
        (("-", "z", 1), ("a", "-", 2), ("a", "z", 0), ("z", "a", 3)),
        (("-", "z", 2),),
        (),
        (("a", "a", 0),),
    ),
    (2,),
)


class MadeTest(unittest.TestCase):
    def fails(self, part, *parts):
        with self.subTest(parts=parts):
            with self.assertRaises(BadStepper) as caught:
                Stepper(*parts)
            self.assertEqual(caught.exception.part, part)

    def test_attributes(self):
        rows = ((("-", "a", 1), ("a", "-", 0), ("b", "c", 0)), ())
        stepper = Stepper(rows, (1,))
        self.assertEqual((stepper.rows, stepper.ends), (rows, (1,)))
        self.assertEqual((NONE_TOLD.rows, NONE_TOLD.ends), (((),), ()))

    def test_by_name(self):
        stepper = Stepper(ends=(0,), rows=((("a", "b", 0),),))
        self.assertEqual((stepper.rows, stepper.ends), (((("a", "b", 0),),), (0,)))

    def test_right_parts(self):
        for parts in (
            (((),), ()),
            (((),), (0,)),
            (((), (), ()), (0, 1, 2)),
            (((("a", "a", 1),), (("z", "z", 0),)), (0, 1)),
            (((("-", "z", 1), ("a", "-", 1), ("a", "z", 0)), ()), (1,)),
            (((("a", "a", 1), ("a", "b", 0), ("b", "a", 0)), ()), (1,)),
        ):
            with self.subTest(parts=parts):
                stepper = Stepper(*parts)
                self.assertEqual((stepper.rows, stepper.ends), parts)

    def test_bad_rows(self):
        for rows in (
            *[value for value in ODD_VALUES if value != ()],
            (),
            [],
            [()],
            ([],),
            ({},),
            ((), None),
            ((), []),
            (("a", "a", 0),),
            ((["a", "a", 0],),),
            ([("a", "a", 0)],),
            [(("a", "a", 0),)],
            (((),),),
            ((("a", "a"),),),
            ((("a", "a", 0, 0),),),
            (((("a", "a"), 0),),),
            (((0, "a", "a", 0),),),
            ((("-", "-", 0),),),
            ((("", "a", 0),),),
            ((("a", "", 0),),),
            ((("ab", "a", 0),),),
            ((("a", "ab", 0),),),
            ((("A", "a", 0),),),
            ((("a", "B", 0),),),
            ((("a", " ", 0),),),
            ((("--", "a", 0),),),
            (((None, "a", 0),),),
            ((("a", None, 0),),),
            ((("a", 0, 0),),),
            (((("a",), "a", 0),),),
            ((("a", ["a"], 0),),),
            ((("a", "a", 1),),),
            ((("a", "a", -1),),),
            ((("a", "a", 10**39),),),
            ((("a", "a", False),),),
            ((("a", "a", True),), ()),
            ((("a", "a", None),),),
            ((("a", "a", "0"),),),
            ((("a", "a", (0,)),),),
            ((("b", "a", 0), ("a", "a", 0)),),
            ((("a", "b", 0), ("a", "a", 0)),),
            ((("a", "a", 0), ("-", "a", 0)),),
            ((("a", "a", 0), ("a", "-", 0)),),
            ((("a", "a", 0), ("a", "a", 0)),),
            ((("a", "a", 0), ("a", "a", 1)), ()),
            ((("a", "a", 0), ("b", "b", 0), ("a", "b", 0)),),
            ((), (("a", "a", 2),)),
            ((("a", "a", 0),), (("a", "a", 0), None)),
            SAME,
            (SAME,),
            ((SAME,),),
            ONE,
        ):
            self.fails("rows", rows, ())

    def test_bad_ends(self):
        for ends in (
            [],
            [0],
            {},
            {0: 1},
            0,
            "0",
            "",
            None,
            (True,),
            (False,),
            (0, True),
            (1, 0),
            (0, 0),
            (0, 2, 1),
            (-1,),
            (3,),
            (0, 3),
            (10**39,),
            ("0",),
            (None,),
            ((0,),),
            ([0],),
            (0, None),
            SAME,
            ONE,
        ):
            self.fails("ends", ((), (), ()), ends)
        for ends in ODD_VALUES:
            if repr(ends) not in ("()", "(0,)"):
                self.fails("ends", ((), (), ()), ends)

    def test_the_first_error_that_is_due(self):
        no_bound = ((("a", "-", 0),),)
        self.fails("rows", ((("a", "-", 1),),), (1,))
        self.fails("rows", [no_bound], [0])
        self.fails("rows", (), (0,))
        self.fails("ends", no_bound, (0, 1))
        self.fails("ends", no_bound, [0])
        self.fails("differences", no_bound, (0,))
        self.assertEqual(Stepper(no_bound, ()).ends, ())

    def test_arguments_are_not_changed(self):
        rows, ends = [[["a", "a", 0]], {"a": [1]}], [0]
        self.fails("rows", rows, ends)
        self.fails("ends", ((),), ends)
        self.assertEqual((rows, ends), ([[["a", "a", 0]], {"a": [1]}], [0]))

    def test_many_states(self):
        many = 2000
        rows = tuple((("a", "b", at + 1), ("b", "-", at + 1)) if at < many - 1 else () for at in range(many))
        stepper = Stepper(rows, (many - 1,))
        self.assertEqual(len(stepper), many)
        self.assertIs(stepper.tells("a" * (many - 1), "b" * (many - 1)), True)
        self.assertIs(stepper.tells("a" * (many - 2) + "b", "b" * (many - 2)), True)
        self.assertIs(stepper.tells("a" * (many - 2), "b" * (many - 2)), False)
        self.fails("differences", (*rows[:-1], (("b", "-", 0),)), (many - 1,))


class DifferencesTest(unittest.TestCase):
    def no_bound(self, *parts):
        with self.subTest(parts=parts):
            with self.assertRaises(BadStepper) as caught:
                Stepper(*parts)
            self.assertEqual(caught.exception.part, "differences")

    def bound(self, *parts):
        with self.subTest(parts=parts):
            self.assertEqual((Stepper(*parts).rows, Stepper(*parts).ends), parts)

    def test_a_ring_of_one_gap(self):
        self.no_bound(((("a", "-", 0),),), (0,))
        self.no_bound(((("-", "a", 0),),), (0,))

    def test_longer_rings(self):
        self.no_bound(((("a", "-", 1),), (("b", "-", 2),), (("a", "-", 0),)), (1,))
        self.no_bound(((("-", "a", 1),), (("-", "b", 0),)), (1,))

    def test_behind_letters_and_ahead_of_an_end(self):
        self.no_bound(
            ((("a", "a", 1),), (("a", "-", 2),), (("b", "-", 3),), (("a", "-", 2), ("b", "-", 4)), ()), (4,)
        )
        self.no_bound(((("a", "a", 1),), (("-", "a", 1), ("-", "b", 2)), ()), (2,))

    def test_one_of_two_rings(self):
        self.no_bound(((("a", "-", 1), ("b", "-", 2)), (("a", "-", 1),), (("a", "-", 2),)), (2,))

    def test_rings_of_pairs_of_letters_are_let(self):
        self.bound(((("a", "a", 0), ("b", "a", 1)), (("a", "a", 0),)), (0, 1))

    def test_rings_that_nothing_leads_to(self):
        self.bound(((), (("a", "-", 1),)), (0, 1))
        self.bound(((("a", "a", 0),), (("-", "a", 1), ("a", "a", 0))), (0, 1))

    def test_rings_that_no_row_comes_to(self):
        # Behind a gap on one side come neither gaps on the other side nor pairs of letters.
        self.bound(((("a", "-", 1),), (("-", "a", 1),)), (1,))
        self.bound(((("-", "a", 1),), (("a", "-", 1),)), (1,))
        self.bound(((("a", "-", 1),), (("a", "a", 2),), (("a", "-", 2),)), (2,))
        self.bound(((("-", "a", 1),), (("a", "a", 2),), (("-", "a", 2),)), (2,))

    def test_rings_that_no_row_goes_round(self):
        self.bound(((("a", "-", 1),), (("-", "a", 0),)), (0, 1))
        self.bound(((("a", "-", 1),), (("b", "b", 0),)), (0, 1))
        self.bound(((("-", "a", 1),), (("b", "b", 0),)), (0, 1))
        self.bound(((("a", "-", 1),), (("-", "a", 2),), (("a", "-", 0),)), (0, 1, 2))

    def test_rings_that_lead_to_no_end(self):
        self.bound(((("a", "-", 0),),), ())
        self.bound(((("a", "-", 1), ("b", "b", 2)), (("a", "-", 1),), ()), (0, 2))
        self.bound(((("-", "a", 1), ("b", "b", 2)), (("-", "a", 1),), ()), (0, 2))

    def test_rings_that_lead_to_an_end_by_no_row(self):
        self.bound(((("a", "-", 1),), (("-", "a", 2), ("a", "-", 1)), ()), (2,))
        self.bound(((("a", "-", 1),), (("a", "-", 1), ("a", "a", 2)), ()), (0, 2))
        self.bound(((("-", "a", 1),), (("-", "a", 1), ("a", "-", 2)), ()), (2,))

    def test_gaps_without_rings(self):
        self.bound(((("a", "-", 1), ("b", "-", 2)), (("a", "-", 3), ("b", "-", 2)), (("a", "-", 3),), ()), (0, 3))

    def test_by_the_definition(self):
        draw = random.Random(3)
        counts = {True: 0, False: 0}
        for _ in range(1500):
            rows, ends = drawn_rows(draw)
            unbound = difference_has_no_bound(rows, ends)
            counts[unbound] += 1
            if unbound:
                self.no_bound(rows, ends)
            else:
                self.bound(rows, ends)
        self.assertGreater(min(counts.values()), 200)


class LengthTest(unittest.TestCase):
    def test_number_of_states(self):
        self.assertEqual([len(stepper) for stepper in STEPPERS], [1, 3, 1, 1])
        self.assertEqual(len(Stepper(((), (), (), ()), ())), 4)


class TellsTest(unittest.TestCase):
    def test_examples(self):
        self.assertIs(ONE_STEPPER.tells("aa", "bb"), True)
        self.assertIs(ONE_STEPPER.tells("a", ""), False)
        self.assertIs(SHIFT_STEPPER.tells("ba", "aba"), True)
        self.assertIs(SHIFT_STEPPER.tells("ba", "bab"), False)

    def test_texts_of_no_letters(self):
        self.assertIs(ONE_STEPPER.tells("", ""), True)
        self.assertIs(SHIFT_STEPPER.tells("", ""), False)
        self.assertIs(NONE_TOLD.tells("", ""), False)
        self.assertIs(SHIFT_STEPPER.tells("", "a"), True)
        self.assertIs(SHIFT_STEPPER.tells("a", ""), False)

    def test_texts_of_unlike_lengths(self):
        self.assertIs(AHEAD.tells("a", ""), True)
        self.assertIs(AHEAD.tells("", "zz"), True)
        self.assertIs(AHEAD.tells("", "z"), False)
        self.assertIs(AHEAD.tells("zaa", "aa"), True)
        self.assertIs(AHEAD.tells("zaa", "aazzz"), True)
        self.assertIs(AHEAD.tells("zaa", "aazz"), False)
        self.assertIs(AHEAD.tells("aa", ""), False)
        self.assertIs(AHEAD.tells("aaaa", "zz"), False)
        self.assertIs(AHEAD.tells("aaa", "zz"), True)

    def test_letters_that_it_has_nowhere(self):
        self.assertIs(SAME.tells("c", "c"), False)
        self.assertIs(NONE_TOLD.tells("a", "b"), False)

    def test_sides_are_not_exchanged(self):
        self.assertIs(ONE_STEPPER.tells("b", "a"), False)
        self.assertIs(AHEAD.tells("", "a"), False)
        self.assertIs(AHEAD.tells("zz", ""), False)

    def test_another_state_than_0_as_the_only_end(self):
        stepper = Stepper(((("a", "a", 1),), (("a", "a", 0),)), (1,))
        self.assertIs(stepper.tells("", ""), False)
        self.assertIs(stepper.tells("a", "a"), True)
        self.assertIs(stepper.tells("aa", "aa"), False)

    def test_by_the_definition(self):
        for stepper in DRAWN_STEPPERS:
            told = told_by_rows(stepper.rows, stepper.ends, TEXTS)
            for left, right in itertools.product(TEXTS, repeat=2):
                self.assertIs(stepper.tells(left, right), (left, right) in told, (str(stepper), left, right))

    def test_long_texts(self):
        self.assertIs(SAME.tells("ab" * 1000, "ab" * 1000), True)
        self.assertIs(SAME.tells("ab" * 1000, "ab" * 999 + "bb"), False)
        self.assertIs(SHIFT_STEPPER.tells("ba" * 900, "a" + "ba" * 900), True)

    def test_by_name(self):
        self.assertIs(AHEAD.tells(right="", left="a"), True)
        self.assertIs(AHEAD.tells(right="a", left=""), False)


class EqualTest(unittest.TestCase):
    def test_equal_attributes(self):
        for stepper in DRAWN_STEPPERS:
            again = Stepper(stepper.rows, stepper.ends)
            self.assertIs(stepper == again, True)
            self.assertIs(stepper != again, False)

    def test_each_attribute_counts(self):
        stepper = Stepper(((("a", "b", 1),), ()), (1,))
        for other in (
            Stepper(((("a", "b", 1),), ()), (0,)),
            Stepper(((("a", "b", 1),), ()), (0, 1)),
            Stepper(((("a", "b", 1),), ()), ()),
            Stepper(((("a", "b", 0),), ()), (1,)),
            Stepper(((("a", "a", 1),), ()), (1,)),
            Stepper(((("b", "b", 1),), ()), (1,)),
            Stepper(((("a", "b", 1),), (), ()), (1,)),
            Stepper(((("a", "b", 1),), (("a", "b", 0),)), (1,)),
        ):
            with self.subTest(other=str(other)):
                self.assertIs(stepper == other, False)
                self.assertIs(other == stepper, False)
                self.assertIs(stepper != other, True)

    def test_the_same_pairs_are_not_enough(self):
        self.assertIs(Stepper(((), ()), (0,)) == Stepper(((),), (0,)), False)

    def test_other_values(self):
        alike = Pacer(1, (0,), ((0, "a", "b", 0),), (0,))
        for value in (*ODD_VALUES, (ONE_STEPPER.rows, ONE_STEPPER.ends), str(ONE_STEPPER), alike, BadStepper("rows")):
            if value is not ONE_STEPPER:
                with self.subTest(value=value):
                    self.assertIs(ONE_STEPPER == value, False)
                    self.assertIs(value == ONE_STEPPER, False)
                    self.assertIs(ONE_STEPPER != value, True)


class GoingOverTest(unittest.TestCase):
    def test_all_steps_with_their_states(self):
        self.assertEqual(list(ONE_STEPPER), [(0, "a", "b", 0)])
        steps = [(0, "-", "a", 1), (0, "a", "a", 0), (0, "b", "a", 2)]
        steps += [(2, "-", "b", 1), (2, "a", "b", 0), (2, "b", "b", 2)]
        self.assertEqual(list(SHIFT_STEPPER), steps)
        self.assertEqual(list(NONE_TOLD), [])

    def test_twice_and_within_one_another(self):
        self.assertEqual(list(SHIFT_STEPPER), list(SHIFT_STEPPER))
        pairs = [(one, other) for one in SHIFT_STEPPER for other in SHIFT_STEPPER]
        self.assertEqual(len(pairs), 36)
        one, other = iter(SAME), iter(SAME)
        self.assertEqual(next(one), (0, "a", "a", 0))
        self.assertEqual(next(one), (0, "b", "b", 0))
        self.assertEqual(next(other), (0, "a", "a", 0))

    def test_steps_that_no_pair_uses_too(self):
        stepper = Stepper(((), (("a", "-", 1), ("b", "b", 0)), (("-", "a", 2),)), (0,))
        self.assertEqual(list(stepper), [(1, "a", "-", 1), (1, "b", "b", 0), (2, "-", "a", 2)])

    def test_by_the_rows(self):
        for stepper in DRAWN_STEPPERS:
            steps = [(state, *step) for state, row in enumerate(stepper.rows) for step in row]
            self.assertEqual(list(stepper), steps)
            for step in stepper:
                self.assertIsInstance(step, tuple)


class NothingChangesTest(unittest.TestCase):
    def test_after_all_calls_the_attributes_are_as_before(self):
        for stepper in DRAWN_STEPPERS:
            before = (stepper.rows, stepper.ends)
            for _ in range(2):
                told = [stepper.tells(left, right) for left in TEXTS[:7] for right in TEXTS[:7]]
                self.assertEqual(told, [stepper.tells(left, right) for left in TEXTS[:7] for right in TEXTS[:7]])
                shown = (len(stepper), list(stepper), str(stepper))
                self.assertEqual((len(stepper), list(stepper), str(stepper)), shown)
                self.assertEqual(least(stepper), least(stepper))
            self.assertEqual((stepper.rows, stepper.ends), before)


class InterfaceTest(unittest.TestCase):
    def test_the_class_itself_has_each_method(self):
        self.assertEqual(Stepper.__module__, "evenlead.steppers")
        for name in ("tells", "read", "__init__", "__len__", "__iter__", "__eq__", "__str__"):
            with self.subTest(name=name):
                self.assertIn(name, vars(Stepper))
        self.assertIsInstance(vars(Stepper)["read"], classmethod)
        self.assertEqual(least.__module__, "evenlead.steppers")
