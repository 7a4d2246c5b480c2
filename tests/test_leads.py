"""Promises 3, 5, 7, 18 and 19: useful states, papers that are made, leads and spread."""

import itertools
import unittest

from evenlead import leads as module
from evenlead.errors import Uneven
from evenlead.leads import is_even, judge, judge_holds, leads, spread, useful
from evenlead.pacers import Pacer
from tests.oracles import drawn_even_pacers, has_uneven_ring, leads_of_even, texts_of, told_by_pacer, useful_states
from tests.test_pacers import DRAWN
from tests.values import MUTE, ONE, RINGS, SHIFT, STILL, WIDE

ALL = [*DRAWN, *drawn_even_pacers(120)]
EVEN = [pacer for pacer in ALL if not has_uneven_ring(pacer)]
UNEVEN = [pacer for pacer in ALL if has_uneven_ring(pacer)]

# A ring with a gain of 2 and one back with a gain of -2: all leads of each state differ by a multiple of 2.
BOTH_WAYS = Pacer(1, (0,), ((0, "aa", "", 0), (0, "", "bb", 0)), (0,))
# A diamond: two ways with unlike gains to state 3, but no rings.
DIAMOND = Pacer(4, (0,), ((0, "aa", "", 1), (0, "", "b", 2), (1, "a", "", 3), (2, "", "bb", 3), (0, "a", "b", 3)), (3,))
# Uneven rings at states that are not useful: 1 is not come to, 2 leads to no end.
USELESS_RINGS = Pacer(
    4, (0,), ((1, "a", "", 1), (1, "a", "", 3), (0, "b", "", 2), (2, "", "a", 2), (0, "a", "b", 3)), (3,)
)
# Longer rings: the gains of the moves add up to 0, or not.
LONG_EVEN = Pacer(
    4, (0,), ((0, "aa", "", 1), (1, "aa", "", 2), (2, "", "bb", 3), (3, "", "bb", 0), (2, "b", "a", 2)), (2,)
)
LONG_UNEVEN = Pacer(4, (0,), ((0, "aa", "", 1), (1, "aa", "", 2), (2, "", "bb", 3), (3, "", "b", 0)), (2,))
SOME = (BOTH_WAYS, DIAMOND, USELESS_RINGS, LONG_EVEN, LONG_UNEVEN)


class UsefulTest(unittest.TestCase):
    def test_all_states(self):
        self.assertEqual(useful(ONE), (0, 1))
        self.assertEqual(useful(SHIFT), (0, 1))
        self.assertEqual(useful(WIDE), (0,))

    def test_a_begin_that_is_an_end(self):
        self.assertEqual(useful(STILL), (0,))
        self.assertEqual(useful(Pacer(3, (0, 2), (), (1, 2))), (2,))

    def test_without_begins_or_ends(self):
        moves = ((0, "a", "", 1), (1, "", "b", 0))
        self.assertEqual(useful(MUTE), ())
        self.assertEqual(useful(Pacer(2, (), moves, (0, 1))), ())
        self.assertEqual(useful(Pacer(2, (0, 1), moves, ())), ())

    def test_states_that_nothing_leads_to(self):
        self.assertEqual(useful(Pacer(3, (0,), ((0, "a", "", 2), (1, "a", "", 2), (1, "", "", 1)), (2,))), (0, 2))
        self.assertEqual(useful(Pacer(2, (0,), ((1, "a", "", 0),), (0, 1))), (0,))

    def test_states_that_lead_to_no_end(self):
        self.assertEqual(useful(Pacer(3, (0,), ((0, "a", "", 1), (1, "", "", 1), (0, "", "b", 2)), (2,))), (0, 2))
        self.assertEqual(useful(RINGS), (0, 1, 2))
        self.assertEqual(useful(USELESS_RINGS), (0, 3))

    def test_a_move_is_gone_in_its_direction_alone(self):
        self.assertEqual(useful(Pacer(2, (0,), ((1, "a", "b", 0),), (1,))), ())

    def test_by_the_definition(self):
        for pacer in (*ALL, *SOME):
            states = useful(pacer)
            self.assertIsInstance(states, tuple)
            self.assertEqual(list(states), useful_states(pacer), str(pacer))

    def test_a_pacer_of_very_many_states(self):
        last = 10**39
        pacer = Pacer(last + 1, (0,), ((0, "a", "", last), (last, "", "b", 1)), (last,))
        self.assertEqual(useful(pacer), (0, last))

    def test_by_name(self):
        self.assertEqual(useful(pacer=ONE), (0, 1))


class JudgeTest(unittest.TestCase):
    def test_examples(self):
        self.assertTrue(judge_holds(ONE, judge(ONE)))
        self.assertEqual(judge(ONE)[0], "leads")
        self.assertTrue(judge_holds(WIDE, judge(WIDE)))
        self.assertEqual(judge(WIDE)[0], "ring")

    def test_even_or_uneven_with_a_paper_that_holds(self):
        for pacer in EVEN:
            self.assertEqual(judge(pacer)[0], "leads", str(pacer))
        for pacer in UNEVEN:
            self.assertEqual(judge(pacer)[0], "ring", str(pacer))
        for pacer in (*ALL, *SOME):
            self.assertIs(judge_holds(pacer, judge(pacer)), True, str(pacer))

    def test_there_are_many_of_both(self):
        self.assertGreater(len(EVEN), 60)
        self.assertGreater(len(UNEVEN), 30)

    def test_no_useful_states(self):
        self.assertEqual(judge(MUTE), ("leads", ()))
        self.assertEqual(judge(Pacer(1, (0,), ((0, "a", "", 0),), ())), ("leads", ()))

    def test_the_paper_shows_pairs_whose_differences_have_no_bound(self):
        for pacer in (*UNEVEN, BOTH_WAYS, LONG_UNEVEN):
            _, begin, there, ring, on = judge(pacer)
            self.assertIn(begin, pacer.begins)
            differences = []
            for times in (0, 1, 2, 5):
                left, right = pacer.spelled(there + ring * times + on)
                self.assertTrue(pacer.tells(left, right))
                differences.append(len(left) - len(right))
            step = differences[1] - differences[0]
            self.assertNotEqual(step, 0)
            self.assertEqual(differences, [differences[0] + times * step for times in (0, 1, 2, 5)])

    def test_rings_of_useless_states_do_not_count(self):
        self.assertEqual(judge(USELESS_RINGS)[0], "leads")

    def test_rings_that_make_up_for_one_another(self):
        self.assertEqual(judge(BOTH_WAYS)[0], "ring")
        self.assertEqual(judge(LONG_EVEN)[0], "leads")
        self.assertEqual(judge(LONG_UNEVEN)[0], "ring")

    def test_again_and_by_name(self):
        for pacer in ALL:
            before = str(pacer)
            self.assertEqual(judge(pacer), judge(pacer=pacer))
            self.assertEqual(str(pacer), before)

    def test_many_states(self):
        pacer = ONE
        for other in (SHIFT, LONG_EVEN, DIAMOND, STILL, RINGS.turned(), LONG_EVEN):
            pacer = pacer + other
        self.assertTrue(judge_holds(pacer, judge(pacer)))
        self.assertEqual(is_even(pacer), is_even(RINGS))
        pacer = pacer + WIDE.turned()
        self.assertEqual(judge(pacer)[0], "ring")
        self.assertTrue(judge_holds(pacer, judge(pacer)))


class IsEvenTest(unittest.TestCase):
    def test_examples(self):
        self.assertIs(is_even(ONE), True)
        self.assertIs(is_even(SHIFT), True)
        self.assertIs(is_even(WIDE), False)
        self.assertIs(is_even(WIDE.turned()), False)
        self.assertIs(is_even(MUTE), True)
        self.assertIs(is_even(STILL), True)
        self.assertIs(is_even(BOTH_WAYS), False)
        self.assertIs(is_even(DIAMOND), True)
        self.assertIs(is_even(USELESS_RINGS), True)

    def test_by_the_rings(self):
        for pacer in EVEN:
            self.assertIs(is_even(pacer), True, str(pacer))
        for pacer in UNEVEN:
            self.assertIs(is_even(pacer), False, str(pacer))

    def test_by_name(self):
        self.assertIs(is_even(pacer=ONE), True)


class LeadsTest(unittest.TestCase):
    def test_examples(self):
        self.assertEqual(leads(ONE, 0), (0,))
        self.assertEqual(leads(ONE, 1), (1,))
        self.assertEqual(leads(SHIFT, 1), (-1,))
        self.assertEqual(leads(STILL, 0), (0,))

    def test_several(self):
        self.assertEqual(leads(DIAMOND, 3), (-3, 0, 3))
        self.assertEqual(leads(DIAMOND, 1), (2,))
        self.assertEqual(leads(LONG_EVEN, 2), (4,))
        self.assertEqual(leads(LONG_EVEN, 3), (2,))

    def test_all_begins_count(self):
        pacer = Pacer(2, (0, 1), ((0, "", "bb", 1), (1, "a", "", 0)), (0,))
        self.assertRaises(Uneven, leads, pacer, 0)
        pacer = Pacer(2, (0, 1), ((0, "", "bb", 1),), (1,))
        self.assertEqual(leads(pacer, 0), (0,))
        self.assertEqual(leads(pacer, 1), (-2, 0))

    def test_by_the_ways(self):
        for pacer in EVEN:
            for state, expected in leads_of_even(pacer).items():
                self.assertEqual(leads(pacer, state), expected, str(pacer))

    def test_uneven(self):
        for pacer in (*UNEVEN, WIDE, BOTH_WAYS):
            for state in useful(pacer):
                with self.assertRaises(Uneven) as caught:
                    leads(pacer, state)
                self.assertEqual(caught.exception.paper[0], "ring")
                self.assertIs(judge_holds(pacer, caught.exception.paper), True)

    def test_by_name(self):
        self.assertEqual(leads(state=1, pacer=ONE), (1,))


class SpreadTest(unittest.TestCase):
    def test_examples(self):
        self.assertEqual(spread(SHIFT), (-1, -1))
        self.assertEqual(spread(ONE), (0, 0))
        self.assertEqual(spread(STILL), (0, 0))
        self.assertEqual(spread(DIAMOND), (-3, 3))
        self.assertEqual(spread(LONG_EVEN), (4, 4))

    def test_no_pair_is_told(self):
        self.assertIsNone(spread(MUTE))
        self.assertIsNone(spread(Pacer(2, (0,), ((0, "a", "", 0),), (1,))))
        self.assertIsNone(spread(Pacer(2, (), ((0, "a", "", 0),), (0, 1))))

    def test_leads_of_states_that_are_no_ends_do_not_count(self):
        self.assertEqual(spread(Pacer(2, (0,), ((0, "aa", "", 1), (1, "", "aa", 0)), (0,))), (0, 0))

    def test_all_ends_count(self):
        self.assertEqual(spread(Pacer(3, (0,), ((0, "aa", "", 1), (0, "", "a", 2)), (1, 2))), (-1, 2))
        self.assertEqual(spread(Pacer(3, (0,), ((0, "aa", "", 1), (0, "", "a", 2)), (0, 1, 2))), (-1, 2))
        self.assertEqual(spread(Pacer(3, (0,), ((0, "aa", "", 1), (0, "", "a", 2)), (0, 1))), (0, 2))

    def test_by_the_ways(self):
        for pacer in EVEN:
            found = leads_of_even(pacer)
            differences = [lead for end in pacer.ends for lead in found.get(end, ())]
            expected = (min(differences), max(differences)) if differences else None
            self.assertEqual(spread(pacer), expected, str(pacer))

    def test_by_the_told_pairs(self):
        for pacer in EVEN:
            for left, right in told_by_pacer(pacer, texts_of("ab", 3)):
                least, greatest = spread(pacer)
                self.assertTrue(least <= len(left) - len(right) <= greatest)

    def test_uneven(self):
        for pacer in (*UNEVEN, WIDE, BOTH_WAYS):
            with self.assertRaises(Uneven) as caught:
                spread(pacer)
            self.assertIs(judge_holds(pacer, caught.exception.paper), True)

    def test_by_name(self):
        self.assertEqual(spread(pacer=SHIFT), (-1, -1))


class NothingChangesTest(unittest.TestCase):
    def test_the_same_call_returns_an_equal_result(self):
        for pacer in (*EVEN, *SOME):
            before = (pacer.size, pacer.begins, pacer.moves, pacer.ends)
            if is_even(pacer):
                self.assertEqual(spread(pacer), spread(pacer))
                for state in useful(pacer):
                    self.assertEqual(leads(pacer, state), leads(pacer, state))
            self.assertEqual(useful(pacer), useful(pacer))
            self.assertEqual((pacer.size, pacer.begins, pacer.moves, pacer.ends), before)

    def test_turned_about_the_spread_is_turned_about(self):
        for one, other in itertools.islice(zip(EVEN, EVEN[1:]), 60):
            for pacer in (one, one | other):
                told = spread(pacer)
                expected = None if told is None else (-told[1], -told[0])
                self.assertEqual(spread(pacer.turned()), expected)


class InterfaceTest(unittest.TestCase):
    def test_defined_in_their_file(self):
        for function in (useful, judge, judge_holds, is_even, leads, spread):
            with self.subTest(name=function.__name__):
                self.assertEqual(function.__module__, "evenlead.leads")
                self.assertIs(getattr(module, function.__name__), function)
