"""Promises 2, 5, 10, 18 and 19: pacers, what they tell, spell, and what is made of them."""

import itertools
import random
import unittest

from evenlead.errors import BadPacer
from evenlead.pacers import Pacer
from tests.values import MUTE, ODD_VALUES, ONE, PACERS, RINGS, SHIFT, STILL, WIDE

GREAT = 10**39

TEXTS = ["".join(letters) for many in range(4) for letters in itertools.product("ab", repeat=many)]
PAIRS = [(left, right) for left in TEXTS for right in TEXTS]


def told_pairs(pacer, most=3):
    """All told pairs of texts of at most so many letters, written out from the definition of ways."""
    found = {(begin, "", "") for begin in pacer.begins}
    while True:
        more = {
            (move[3], left + move[1], right + move[2])
            for state, left, right in found
            for move in pacer.moves
            if move[0] == state and len(left + move[1]) <= most and len(right + move[2]) <= most
        }
        if more <= found:
            return {(left, right) for state, left, right in found if state in pacer.ends}
        found |= more


def joined(pairs, others, most=3):
    """The pairs put behind one another, as far as both texts have at most so many letters."""
    return {
        (left + word, right + other)
        for left, right in pairs
        for word, other in others
        if len(left + word) <= most and len(right + other) <= most
    }


def drawn_pacers(many):
    """Some pacers, the same ones each time."""
    draw = random.Random(19)
    pacers = []
    for _ in range(many):
        size = draw.randint(1, 4)
        states = range(size)
        moves = tuple(
            (
                draw.choice(states),
                "".join(draw.choice("ab") for _ in range(draw.choice((0, 0, 1, 2)))),
                "".join(draw.choice("ab") for _ in range(draw.choice((0, 0, 1, 2)))),
                draw.choice(states),
            )
            for _ in range(draw.randint(0, 8))
        )
        begins = tuple(state for state in states if draw.random() < 0.5)
        ends = tuple(state for state in states if draw.random() < 0.5)
        pacers.append(Pacer(size, begins, moves, ends))
    return pacers


DRAWN = [*PACERS, *drawn_pacers(80)]


class MadeTest(unittest.TestCase):
    def fails(self, part, *parts):
        with self.subTest(parts=parts):
            with self.assertRaises(BadPacer) as caught:
                Pacer(*parts)
            self.assertEqual(caught.exception.part, part)

    def test_attributes(self):
        moves = ((0, "a", "", 1), (1, "", "b", 0))
        pacer = Pacer(3, (0, 2), moves, (1,))
        self.assertEqual((pacer.size, pacer.begins, pacer.moves, pacer.ends), (3, (0, 2), moves, (1,)))

    def test_by_name(self):
        pacer = Pacer(ends=(1,), moves=((0, "a", "b", 1),), begins=(0,), size=2)
        self.assertEqual(pacer, Pacer(2, (0,), ((0, "a", "b", 1),), (1,)))
        self.assertEqual((pacer.begins, pacer.ends), ((0,), (1,)))

    def test_right_parts(self):
        for parts in (
            (1, (), (), ()),
            (1, (0,), (), (0,)),
            (4, (0, 1, 2, 3), (), (0, 1, 2, 3)),
            (2, (1,), ((1, "zz", "", 0), (1, "zz", "", 0)), (0,)),
            (2, (), ((0, "", "", 0),), ()),
        ):
            with self.subTest(parts=parts):
                pacer = Pacer(*parts)
                self.assertEqual((pacer.size, pacer.begins, pacer.moves, pacer.ends), parts)

    def test_a_very_great_size(self):
        last = GREAT - 1
        moves = ((0, "a", "b", last), (last, "b", "", last))
        pacer = Pacer(GREAT, (0, last), moves, (last,))
        self.assertEqual((pacer.size, pacer.begins, pacer.moves, pacer.ends), (GREAT, (0, last), moves, (last,)))
        self.assertEqual(pacer, Pacer(GREAT, (0, last), moves, (last,)))
        self.assertNotEqual(pacer, Pacer(GREAT + 1, (0, last), moves, (last,)))
        self.assertIs(pacer.tells("abb", "b"), True)
        self.assertIs(pacer.tells("a", ""), False)
        self.assertEqual((pacer | ONE).begins, (0, last, GREAT))
        self.fails("begins", GREAT, (GREAT,), (), ())
        self.fails("moves", GREAT, (), ((0, "", "", GREAT),), ())
        self.fails("ends", GREAT, (), (), (GREAT,))

    def test_bad_size(self):
        for size in (*ODD_VALUES, 0, -1, True, False, "2", (2,), [2], 1.0):
            if isinstance(size, bool) or not isinstance(size, int) or size < 1:
                self.fails("size", size, (), (), ())

    def test_bad_states(self):
        for states in (
            *ODD_VALUES,
            [],
            [0],
            {},
            {0: 1},
            0,
            "0",
            "",
            None,
            (True,),
            (False,),
            (0, True),
            (1, 0),
            (0, 0),
            (0, 1, 1),
            (0, 2, 1),
            (-1,),
            (-1, 0),
            (3,),
            (0, 3),
            ("0",),
            (None,),
            ((0,),),
            ([0],),
            (0, None),
            (0, "a"),
            (1.0,),
        ):
            # Compared as they are written, as (False,) == (0,).
            if repr(states) not in ("()", "(0,)"):
                self.fails("begins", 3, states, (), ())
                self.fails("ends", 3, (), (), states)

    def test_bad_moves(self):
        for moves in (
            *[value for value in ODD_VALUES if value != () and value != ((0, "a", "b", 0),)],
            [],
            {},
            None,
            "",
            0,
            [(0, "a", "b", 0)],
            {(0, "a", "b", 0): True},
            (0, "a", "b", 0),
            ([0, "a", "b", 0],),
            ((),),
            ((0, "a", "b"),),
            ((0, "a", "b", 0, 0),),
            ((2, "a", "b", 0),),
            ((0, "a", "b", 2),),
            ((-1, "a", "b", 0),),
            ((0, "a", "b", -1),),
            ((False, "a", "b", 0),),
            ((0, "a", "b", False),),
            ((True, "a", "b", 0),),
            ((0, "a", "b", True),),
            (("0", "a", "b", 0),),
            ((0, "a", "b", "0"),),
            ((None, "a", "b", 0),),
            ((0, "a", "b", None),),
            (((0,), "a", "b", 0),),
            ((0, "a", "b", [0]),),
            ((0, None, "b", 0),),
            ((0, "a", None, 0),),
            ((0, 0, "b", 0),),
            ((0, "a", 0, 0),),
            ((0, "A", "b", 0),),
            ((0, "a", "B", 0),),
            ((0, "-", "b", 0),),
            ((0, "a", "-", 0),),
            ((0, "a b", "b", 0),),
            ((0, "a", "b\n", 0),),
            ((0, ("a",), "b", 0),),
            ((0, "a", ["b"], 0),),
            ((0, "a", "b", 0), None),
            ((0, "a", "b", 0), (0, "a", "b", 2)),
            ((0, "a", "b", 2), (0, "a", "b", 0)),
            (ONE,),
            ONE,
        ):
            self.fails("moves", 2, (), moves, ())

    def test_the_first_part_that_is_not_as_described(self):
        good = {"size": 2, "begins": (0,), "moves": ((0, "a", "b", 1),), "ends": (1,)}
        bad = {"size": 0, "begins": (2,), "moves": ((0, "a", "b", 2),), "ends": [1]}
        names = ("size", "begins", "moves", "ends")
        for chosen in itertools.product((False, True), repeat=4):
            parts = [bad[name] if wrong else good[name] for name, wrong in zip(names, chosen)]
            wrong_names = [name for name, wrong in zip(names, chosen) if wrong]
            if wrong_names:
                self.fails(wrong_names[0], *parts)

    def test_arguments_are_not_changed(self):
        begins, moves, ends = [0, {"a": [1]}], [[0, "a", "b", 0]], [[0]]
        self.fails("begins", 1, begins, moves, ends)
        self.fails("moves", 1, (), moves, ends)
        self.fails("ends", 1, (), (), ends)
        self.assertEqual((begins, moves, ends), ([0, {"a": [1]}], [[0, "a", "b", 0]], [[0]]))


class EqualTest(unittest.TestCase):
    def test_equal_attributes(self):
        for pacer in DRAWN:
            again = Pacer(pacer.size, pacer.begins, pacer.moves, pacer.ends)
            self.assertIs(pacer == again, True)
            self.assertIs(pacer != again, False)

    def test_each_attribute_counts(self):
        pacer = Pacer(2, (0,), ((0, "a", "", 1), (1, "", "b", 0)), (0,))
        for other in (
            Pacer(3, (0,), pacer.moves, (0,)),
            Pacer(2, (1,), pacer.moves, (0,)),
            Pacer(2, (0, 1), pacer.moves, (0,)),
            Pacer(2, (0,), pacer.moves[::-1], (0,)),
            Pacer(2, (0,), (*pacer.moves, pacer.moves[0]), (0,)),
            Pacer(2, (0,), pacer.moves, (1,)),
            Pacer(2, (0,), pacer.moves, ()),
        ):
            with self.subTest(other=str(other)):
                self.assertIs(pacer == other, False)
                self.assertIs(other == pacer, False)
                self.assertIs(pacer != other, True)

    def test_other_values(self):
        parts = (ONE.size, ONE.begins, ONE.moves, ONE.ends)
        for value in (*ODD_VALUES, parts, str(ONE), BadPacer("size")):
            if value is not ONE:
                with self.subTest(value=value):
                    self.assertIs(ONE == value, False)
                    self.assertIs(value == ONE, False)
                    self.assertIs(ONE != value, True)


class TellsTest(unittest.TestCase):
    def test_the_examples(self):
        self.assertIs(ONE.tells("aa", "bb"), True)
        self.assertIs(ONE.tells("a", ""), False)

    def test_just_the_pairs_that_ways_spell(self):
        for pacer in DRAWN:
            told = told_pairs(pacer)
            for left, right in PAIRS:
                self.assertIs(pacer.tells(left, right), (left, right) in told, (str(pacer), left, right))

    def test_the_pair_of_two_empty_texts(self):
        self.assertIs(STILL.tells("", ""), True)
        self.assertIs(STILL.tells("a", ""), False)
        self.assertIs(STILL.tells("", "a"), False)
        self.assertIs(Pacer(2, (0,), (), (1,)).tells("", ""), False)
        self.assertIs(Pacer(2, (0,), ((0, "", "", 1),), (1,)).tells("", ""), True)

    def test_rings_of_empty_moves(self):
        self.assertIs(RINGS.tells("", ""), True)
        self.assertIs(RINGS.tells("ab", "ba"), True)
        self.assertIs(RINGS.tells("abab", "bababa"), True)
        self.assertIs(RINGS.tells("ab", ""), False)
        self.assertIs(RINGS.tells("b", "b"), False)

    def test_no_begins_or_no_ends(self):
        self.assertIs(MUTE.tells("", ""), False)
        self.assertIs(Pacer(1, (), ((0, "a", "b", 0),), (0,)).tells("a", "b"), False)
        self.assertIs(Pacer(1, (), (), (0,)).tells("", ""), False)
        self.assertIs(Pacer(1, (0,), ((0, "a", "b", 0),), ()).tells("a", "b"), False)
        self.assertIs(Pacer(1, (0,), (), ()).tells("", ""), False)

    def test_runs_ahead_and_is_caught_up(self):
        ahead = Pacer(2, (0,), ((0, "ab", "", 0), (0, "", "", 1), (1, "", "b", 1)), (1,))
        self.assertIs(ahead.tells("abab", "bbb"), True)
        self.assertIs(ahead.tells("aba", "b"), False)
        self.assertIs(ahead.tells("", "bb"), True)
        self.assertIs(ahead.tells("ab", "ab"), False)

    def test_long_texts(self):
        self.assertIs(ONE.tells("a" * 2000, "b" * 2000), True)
        self.assertIs(ONE.tells("a" * 2000, "b" * 1999), False)
        self.assertIs(SHIFT.tells("ba" * 500, "a" + "ba" * 500), True)
        self.assertIs(WIDE.tells("a" * 300, "b" * 600), True)

    def test_by_name(self):
        self.assertIs(WIDE.tells(right="bb", left="a"), True)
        self.assertIs(WIDE.tells(right="a", left="bb"), False)


class SpelledTest(unittest.TestCase):
    def test_ways(self):
        self.assertEqual(ONE.spelled((0, 1, 0)), ("aa", "b"))
        self.assertEqual(SHIFT.spelled((0, 2, 1)), ("ba", "aba"))

    def test_other_tuples_of_indexes(self):
        self.assertEqual(ONE.spelled((0, 0)), ("aa", ""))
        self.assertEqual(ONE.spelled((1, 1, 0)), ("a", "bb"))
        self.assertEqual(RINGS.spelled((6, 2, 4)), ("bab", "bba"))

    def test_none(self):
        self.assertEqual(ONE.spelled(()), ("", ""))
        self.assertEqual(MUTE.spelled(()), ("", ""))

    def test_by_name(self):
        self.assertEqual(WIDE.spelled(moves=(0, 0)), ("aa", "bbbb"))

    def test_each_way_spells_a_told_pair(self):
        for pacer in DRAWN:
            for indexes in itertools.product(range(len(pacer.moves)), repeat=2):
                first, second = [pacer.moves[at] for at in indexes]
                if first[0] in pacer.begins and first[3] == second[0] and second[3] in pacer.ends:
                    self.assertIs(pacer.tells(*pacer.spelled(indexes)), True)


class JoinedTest(unittest.TestCase):
    def test_or_part_by_part(self):
        both = ONE | SHIFT
        self.assertIsInstance(both, Pacer)
        self.assertEqual(both.size, 4)
        self.assertEqual(both.begins, (0, 2))
        self.assertEqual(
            both.moves, ((0, "a", "", 1), (1, "", "b", 0), (2, "", "a", 3), (3, "a", "a", 3), (3, "b", "b", 3))
        )
        self.assertEqual(both.ends, (0, 3))

    def test_or_is_not_the_other_way_round(self):
        self.assertEqual(
            WIDE | ONE, Pacer(3, (0, 1), ((0, "a", "bb", 0), (1, "a", "", 2), (2, "", "b", 1)), (0, 1))
        )
        self.assertEqual(
            ONE | WIDE, Pacer(3, (0, 2), ((0, "a", "", 1), (1, "", "b", 0), (2, "a", "bb", 2)), (0, 2))
        )

    def test_add_part_by_part(self):
        one = Pacer(3, (0, 1), ((0, "a", "", 1),), (0, 2))
        other = Pacer(4, (1, 3), ((3, "", "bb", 0),), (0, 2, 3))
        behind = one + other
        self.assertIsInstance(behind, Pacer)
        self.assertEqual(behind.size, 7)
        self.assertEqual(behind.begins, (0, 1))
        self.assertEqual(
            behind.moves,
            ((0, "a", "", 1), (6, "", "bb", 3), (0, "", "", 4), (0, "", "", 6), (2, "", "", 4), (2, "", "", 6)),
        )
        self.assertEqual(behind.ends, (3, 5, 6))

    def test_with_pacers_without_begins_and_ends(self):
        self.assertEqual(MUTE | MUTE, Pacer(2, (), (), ()))
        self.assertEqual(MUTE + MUTE, Pacer(2, (), (), ()))
        self.assertEqual(MUTE + STILL, Pacer(2, (), (), (1,)))
        self.assertEqual(STILL + MUTE, Pacer(2, (0,), (), ()))
        self.assertEqual(STILL + STILL, Pacer(2, (0,), ((0, "", "", 1),), (1,)))

    def test_or_tells_what_one_of_both_tells(self):
        for one, other in itertools.product(DRAWN[:24], repeat=2):
            self.assertEqual(told_pairs(one | other), told_pairs(one) | told_pairs(other))

    def test_add_tells_the_pairs_put_behind_one_another(self):
        for one, other in itertools.product(DRAWN[:24], repeat=2):
            self.assertEqual(told_pairs(one + other), joined(told_pairs(one), told_pairs(other)))

    def test_told_pairs_of_what_is_joined(self):
        self.assertIs((ONE | WIDE).tells("aa", "bb"), True)
        self.assertIs((ONE | WIDE).tells("aa", "bbbb"), True)
        self.assertIs((ONE | WIDE).tells("aa", "bbb"), False)
        self.assertIs((ONE + WIDE).tells("aa", "bbb"), True)
        self.assertIs((SHIFT + SHIFT).tells("ab", "aaab"), True)
        self.assertIs((SHIFT + SHIFT).tells("ab", "aaba"), True)
        self.assertIs((SHIFT + SHIFT).tells("ab", "abaa"), False)
        self.assertIs((SHIFT + SHIFT).tells("ab", "aab"), False)

    def test_nothing_changes(self):
        before = [str(pacer) for pacer in PACERS]
        for one, other in itertools.product(PACERS, repeat=2):
            self.assertEqual(one | other, one | other)
            self.assertEqual(one + other, one + other)
            self.assertEqual(one.turned(), one.turned())
            self.assertEqual(one.backward(), one.backward())
        self.assertEqual([str(pacer) for pacer in PACERS], before)


class TurnedTest(unittest.TestCase):
    PACER = Pacer(3, (0, 1), ((0, "ab", "c", 1), (1, "", "xy", 2), (0, "ab", "c", 1)), (2,))

    def test_turned_part_by_part(self):
        self.assertEqual(
            self.PACER.turned(),
            Pacer(3, (0, 1), ((0, "c", "ab", 1), (1, "xy", "", 2), (0, "c", "ab", 1)), (2,)),
        )

    def test_backward_part_by_part(self):
        self.assertEqual(
            self.PACER.backward(),
            Pacer(3, (2,), ((1, "ba", "c", 0), (2, "", "yx", 1), (1, "ba", "c", 0)), (0, 1)),
        )

    def test_twice_is_as_before(self):
        for pacer in DRAWN:
            self.assertEqual(pacer.turned().turned(), pacer)
            self.assertEqual(pacer.backward().backward(), pacer)

    def test_told_pairs(self):
        for pacer in DRAWN:
            told = told_pairs(pacer)
            self.assertEqual(told_pairs(pacer.turned()), {(right, left) for left, right in told})
            self.assertEqual(told_pairs(pacer.backward()), {(left[::-1], right[::-1]) for left, right in told})


class InterfaceTest(unittest.TestCase):
    def test_the_class_itself_has_each_method(self):
        self.assertEqual(Pacer.__module__, "evenlead.pacers")
        plain = ("tells", "spelled", "turned", "backward", "read")
        for name in (*plain, "__init__", "__or__", "__add__", "__eq__", "__str__"):
            with self.subTest(name=name):
                self.assertIn(name, vars(Pacer))
        self.assertIsInstance(vars(Pacer)["read"], classmethod)

    def test_is_not_iterated_over(self):
        with self.assertRaises(TypeError):
            iter(ONE)
