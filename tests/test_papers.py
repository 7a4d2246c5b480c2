"""Promises 3, 7 and 18: which values are papers that a pacer is even or uneven."""

import itertools
import unittest

from evenlead.leads import judge, judge_holds
from evenlead.pacers import Pacer
from tests.oracles import gain, goes, moves_of_useful, useful_states
from tests.test_leads import ALL, BOTH_WAYS, DIAMOND, LONG_EVEN, LONG_UNEVEN
from tests.values import MUTE, ODD_VALUES, ONE, ONE_STEPPER, RINGS, SHIFT, STILL, WIDE

# State 1 has a ring with gain 1, one with gain 0 and one that is empty; 0 leads there, 2 is the end; 3 is useless.
TAIL = Pacer(
    4,
    (0, 1),
    (
        (0, "a", "", 1),
        (1, "ab", "b", 1),
        (1, "a", "b", 1),
        (1, "", "", 1),
        (1, "", "b", 2),
        (2, "", "", 2),
        (2, "b", "", 3),
    ),
    (2,),
)
# Two states, three moves: small enough for all papers of a few moves.
SMALL = Pacer(2, (0,), ((0, "a", "", 1), (1, "a", "", 0), (1, "", "b", 0)), (1,))


def bounds_are_right(pacer, bounds):
    """The definition, for triples of integers."""
    states = useful_states(pacer)
    if [state for state, _, _ in bounds] != states or any(low > high for _, low, high in bounds):
        return False
    low = {state: low for state, low, _ in bounds}
    high = {state: high for state, _, high in bounds}
    if any(low[begin] > 0 or high[begin] < 0 for begin in pacer.begins if begin in states):
        return False
    for at in moves_of_useful(pacer):
        state, _, _, further = pacer.moves[at]
        if low[further] > low[state] + gain(pacer, (at,)) or high[further] < high[state] + gain(pacer, (at,)):
            return False
    return True


def ring_is_right(pacer, begin, there, ring, on):
    """The definition, for an integer and tuples of indexes of moves."""
    if begin not in pacer.begins or goes(pacer, begin, there) is None:
        return False
    state = goes(pacer, begin, there)
    if not ring or goes(pacer, state, ring) != state or gain(pacer, ring) == 0:
        return False
    return goes(pacer, state, on) is not None and goes(pacer, state, on) in pacer.ends


def put_otherwise(thing):
    """Values like this one, but with a part of another kind, at any depth."""
    yield None
    yield {"part": thing}
    yield [thing]
    yield (thing,)
    if isinstance(thing, tuple):
        yield list(thing)
        yield (*thing, None)
        yield {at: part for at, part in enumerate(thing)}
        for at, part in enumerate(thing):
            for other in put_otherwise(part):
                yield (*thing[:at], other, *thing[at + 1 :])
    elif isinstance(thing, str):
        yield thing + " "
        yield thing[:-1]
        yield thing.upper()
        yield [*thing]
    else:
        yield str(thing)
        if thing in (0, 1):
            yield bool(thing)


class BoundsTest(unittest.TestCase):
    def holds(self, pacer, *bounds):
        self.assertIs(judge_holds(pacer, ("leads", bounds)), True)

    def fails(self, pacer, *bounds):
        with self.subTest(bounds=bounds):
            self.assertIs(judge_holds(pacer, ("leads", bounds)), False)

    def test_just_right(self):
        self.holds(ONE, (0, 0, 0), (1, 1, 1))
        self.holds(SHIFT, (0, 0, 0), (1, -1, -1))
        self.holds(STILL, (0, 0, 0))
        self.holds(DIAMOND, (0, 0, 0), (1, 2, 2), (2, -1, -1), (3, -3, 3))
        self.holds(LONG_EVEN, (0, 0, 0), (1, 2, 2), (2, 4, 4), (3, 2, 2))
        self.holds(MUTE)

    def test_wider(self):
        self.holds(ONE, (0, -1, 0), (1, 0, 1))
        self.holds(ONE, (0, 0, 2), (1, 1, 3))
        self.holds(ONE, (0, -(10**39), 10**39), (1, -(10**39) + 1, 10**39 + 1))
        self.holds(DIAMOND, (0, 0, 0), (1, 2, 7), (2, -5, -1), (3, -7, 8))
        self.holds(DIAMOND, (0, 0, 0), (1, -6, 2), (2, -1, 6), (3, -5, 4))
        self.holds(STILL, (0, -3, 5))

    def test_wider_but_not_along_the_moves(self):
        self.fails(ONE, (0, -1, 0), (1, 1, 1))
        self.fails(ONE, (0, 0, 0), (1, 0, 1))
        self.fails(ONE, (0, 0, 1), (1, 1, 1))
        self.fails(ONE, (0, 0, 0), (1, 1, 2))
        self.fails(ONE, (0, -1, 1), (1, -1, 3))
        self.fails(DIAMOND, (0, 0, 0), (1, 2, 7), (2, -1, -1), (3, -3, 7))

    def test_narrower_by_one(self):
        self.fails(DIAMOND, (0, 0, 0), (1, 2, 2), (2, -1, -1), (3, -2, 3))
        self.fails(DIAMOND, (0, 0, 0), (1, 2, 2), (2, -1, -1), (3, -3, 2))
        self.fails(DIAMOND, (0, 0, 0), (1, 3, 3), (2, -1, -1), (3, -3, 4))
        self.fails(DIAMOND, (0, 0, 0), (1, 2, 2), (2, -2, -2), (3, -4, 3))

    def test_begins_lie_around_0(self):
        self.fails(STILL, (0, 1, 1))
        self.fails(STILL, (0, -1, -1))
        self.fails(ONE, (0, 1, 1), (1, 2, 2))
        self.fails(ONE, (0, -1, -1), (1, 0, 0))
        self.fails(Pacer(2, (0, 1), ((0, "a", "", 1),), (1,)), (0, 0, 0), (1, 1, 1))
        self.holds(Pacer(2, (0, 1), ((0, "a", "", 1),), (1,)), (0, 0, 0), (1, 0, 1))

    def test_begins_that_are_not_useful_do_not_count(self):
        self.holds(Pacer(2, (0, 1), (), (0,)), (0, 0, 0))

    def test_low_at_most_high(self):
        self.fails(STILL, (0, 0, -1))
        self.fails(STILL, (0, 1, -1))
        self.fails(Pacer(2, (0,), ((0, "a", "", 1),), (1,)), (0, 0, 0), (1, 1, 0))

    def test_each_useful_state_and_no_other_ascending(self):
        self.fails(ONE, (0, 0, 0))
        self.fails(ONE, (1, 1, 1))
        self.fails(ONE)
        self.fails(ONE, (1, 1, 1), (0, 0, 0))
        self.fails(ONE, (0, 0, 0), (0, 0, 0), (1, 1, 1))
        self.fails(ONE, (0, 0, 0), (1, 1, 1), (1, 1, 1))
        self.fails(ONE, (0, 0, 0), (1, 1, 1), (2, 0, 0))
        self.fails(ONE, (-1, 0, 0), (0, 0, 0), (1, 1, 1))
        self.fails(MUTE, (0, 0, 0))
        rings = Pacer(4, (0,), ((0, "a", "b", 1), (0, "a", "", 3)), (1,))
        self.holds(rings, (0, 0, 0), (1, 0, 0))
        self.fails(rings, (0, 0, 0), (1, 0, 0), (3, 1, 1))
        self.fails(rings, (0, 0, 0), (1, 0, 0), (2, 0, 0))

    def test_moves_of_useless_states_do_not_count(self):
        self.holds(Pacer(2, (0,), ((0, "a", "", 1), (1, "a", "", 1), (1, "a", "", 1)), (0,)), (0, 0, 0))

    def test_no_bounds_of_an_uneven_pacer(self):
        for low, high in itertools.product(range(-3, 4), repeat=2):
            self.fails(WIDE, (0, low, high))
            self.fails(BOTH_WAYS, (0, low, high))
        self.fails(WIDE, (0, -(10**39), 10**39))

    def test_all_small_bounds_by_the_definition(self):
        triples = [[(state, low, high) for low in range(-2, 3) for high in range(-2, 3)] for state in range(2)]
        others = (Pacer(2, (0, 1), ((0, "", "b", 1),), (1,)), Pacer(2, (1,), ((1, "ab", "", 0),), (0,)))
        for pacer in (ONE, SHIFT, *others):
            held = 0
            for bounds in itertools.product(*triples):
                right = bounds_are_right(pacer, bounds)
                held += right
                self.assertIs(judge_holds(pacer, ("leads", bounds)), right, (str(pacer), bounds))
            self.assertGreater(held, 0)

    def test_papers_of_others_by_the_definition(self):
        papers = [judge(pacer) for pacer in ALL]
        for pacer in ALL:
            for paper in papers:
                if paper[0] == "leads":
                    self.assertIs(judge_holds(pacer, paper), bounds_are_right(pacer, paper[1]), (str(pacer), paper))


class RingTest(unittest.TestCase):
    def holds(self, pacer, *parts):
        self.assertIs(judge_holds(pacer, ("ring", *parts)), True)

    def fails(self, pacer, *parts):
        with self.subTest(parts=parts):
            self.assertIs(judge_holds(pacer, ("ring", *parts)), False)

    def test_example(self):
        self.holds(WIDE, 0, (), (0,), ())

    def test_longer_than_needed(self):
        self.holds(WIDE, 0, (0, 0), (0, 0, 0), (0,))
        self.holds(TAIL, 0, (0, 2, 3), (1,), (3, 2, 4, 5, 5))

    def test_gone_round_twice(self):
        self.holds(TAIL, 0, (0,), (1,), (4,))
        self.holds(TAIL, 0, (0,), (1, 1), (4,))
        self.holds(TAIL, 0, (0, 1), (1, 1, 3, 2), (1, 4))
        self.holds(WIDE, 0, (), (0,) * 2990, ())

    def test_begun_at_another_place(self):
        self.holds(LONG_UNEVEN, 0, (), (0, 1, 2, 3), (0, 1))
        self.holds(LONG_UNEVEN, 0, (0,), (1, 2, 3, 0), (1,))
        self.holds(LONG_UNEVEN, 0, (0, 1), (2, 3, 0, 1), ())
        self.holds(LONG_UNEVEN, 0, (0, 1, 2), (3, 0, 1, 2), (3, 0, 1))
        self.fails(LONG_UNEVEN, 0, (0,), (0, 1, 2, 3), (0, 1))
        self.fails(LONG_UNEVEN, 0, (), (1, 2, 3, 0), (1,))

    def test_another_begin(self):
        self.holds(TAIL, 1, (), (1,), (4,))
        self.fails(TAIL, 0, (), (1,), (4,))
        self.fails(TAIL, 1, (0,), (1,), (4,))
        self.fails(TAIL, 2, (), (5,), ())
        self.fails(TAIL, -1, (), (1,), (4,))
        self.fails(TAIL, 4, (), (1,), (4,))
        self.fails(LONG_UNEVEN, 1, (), (1, 2, 3, 0), (1,))

    def test_gain_0(self):
        self.fails(TAIL, 0, (0,), (2,), (4,))
        self.fails(TAIL, 0, (0,), (3,), (4,))
        self.fails(TAIL, 0, (0,), (), (4,))
        self.fails(TAIL, 0, (0,), (3, 2, 2, 3), (4,))
        self.fails(TAIL, 0, (0, 4), (5,), ())
        self.fails(BOTH_WAYS, 0, (), (0, 1), ())
        self.holds(BOTH_WAYS, 0, (), (0, 1, 0), ())
        self.holds(BOTH_WAYS, 0, (), (1,), ())

    def test_gains_below_0_count(self):
        self.holds(WIDE.turned(), 0, (), (0,), ())
        self.holds(TAIL.turned(), 0, (0,), (1,), (4,))

    def test_no_ways(self):
        self.fails(TAIL, 0, (0, 0), (1,), (4,))
        self.fails(TAIL, 0, (1,), (1,), (4,))
        self.fails(TAIL, 0, (0,), (1, 0), (4,))
        self.fails(TAIL, 0, (0,), (1, 4), (4,))
        self.fails(TAIL, 0, (0,), (4,), (5,))
        self.fails(TAIL, 0, (0,), (1,), (5,))
        self.fails(TAIL, 0, (0,), (1,), (4, 4))
        self.fails(SMALL, 0, (), (0,), ())

    def test_on_leads_to_an_end(self):
        self.fails(TAIL, 0, (0,), (1,), ())
        self.fails(TAIL, 0, (0,), (1,), (1,))
        self.fails(TAIL, 0, (0,), (1,), (4, 6))
        self.fails(LONG_UNEVEN, 0, (), (0, 1, 2, 3), ())

    def test_indexes_that_are_none(self):
        for at in (-1, 7, 10**39, -(10**39)):
            self.fails(TAIL, 0, (at,), (1,), (4,))
            self.fails(TAIL, 0, (0, at), (1,), (4,))
            self.fails(TAIL, 0, (0,), (1, at), (4,))
            self.fails(TAIL, 0, (0,), (1,), (4, at))
        # Counted from behind, these would be the right moves.
        self.fails(TAIL, 0, (-7,), (1,), (4,))
        self.fails(TAIL, 0, (0,), (-6,), (4,))
        self.fails(TAIL, 0, (0,), (1,), (-3,))

    def test_all_small_papers_by_the_definition(self):
        def ways(most):
            return [way for many in range(most + 1) for way in itertools.product(range(3), repeat=many)]

        others = (Pacer(2, (0, 1), SMALL.moves, (0,)), Pacer(2, (1,), SMALL.moves[:2], (0,)))
        for pacer in (SMALL, SMALL.turned(), *others):
            held = 0
            for begin, there, ring, on in itertools.product(range(3), ways(1), ways(3), ways(2)):
                if max((0, *there, *ring, *on)) < len(pacer.moves):
                    right = ring_is_right(pacer, begin, there, ring, on)
                    held += right
                    self.assertIs(judge_holds(pacer, ("ring", begin, there, ring, on)), right)
            self.assertGreater(held, 0)

    def test_papers_of_others_by_the_definition(self):
        papers = [judge(pacer) for pacer in ALL]
        for pacer in ALL:
            for paper in papers:
                if paper[0] == "ring" and max((0, *paper[2], *paper[3], *paper[4])) < len(pacer.moves):
                    self.assertIs(judge_holds(pacer, paper), ring_is_right(pacer, *paper[1:]), (str(pacer), paper))

    def test_no_ring_of_an_even_pacer(self):
        rings = ((), (0,), (0, 1), (1, 0))
        for begin, there, ring, on in itertools.product((0, 1), ((), (0,)), rings, ((), (0,), (1,))):
            self.fails(ONE, begin, there, ring, on)


class AnyValueTest(unittest.TestCase):
    def test_values_of_all_kinds(self):
        for pacer in (ONE, WIDE, MUTE, STILL, TAIL, RINGS):
            for thing in ODD_VALUES:
                self.assertIs(judge_holds(pacer, thing), False)
                for paper in (
                    ("leads", thing),
                    ("leads", (thing,)),
                    ("leads", ((0, thing, 0),)),
                    ("ring", thing, (), (0,), ()),
                    ("ring", 0, thing, (0,), ()),
                    ("ring", 0, (), thing, ()),
                    ("ring", 0, (), (0,), thing),
                    ("ring", 0, (thing,), (0,), ()),
                    (thing, ((0, 0, 0),)),
                    (thing, 0, (), (0,), ()),
                ):
                    held = judge_holds(pacer, paper)
                    if not self.is_plain(thing):
                        self.assertIs(held, False, paper)
                    self.assertIn(held, (True, False))

    def is_plain(self, thing):
        """Whether it can stand in a paper as an integer or a tuple of integers."""
        if isinstance(thing, tuple):
            return all(isinstance(part, int) and not isinstance(part, bool) for part in thing)
        return isinstance(thing, int) and not isinstance(thing, bool)

    def test_parts_put_otherwise_at_any_depth(self):
        papers = [
            (ONE, ("leads", ((0, 0, 0), (1, 1, 1)))),
            (MUTE, ("leads", ())),
            (WIDE, ("ring", 0, (), (0,), ())),
            (TAIL, ("ring", 1, (1,), (1,), (4, 5))),
            *((pacer, judge(pacer)) for pacer in ALL[:40]),
        ]
        for pacer, paper in papers:
            self.assertIs(judge_holds(pacer, paper), True)
            for other in put_otherwise(paper):
                self.assertIs(judge_holds(pacer, other), False, other)

    def test_other_names_and_lengths(self):
        bounds = ((0, 0, 0), (1, 1, 1))
        for paper in (
            ("leads",),
            ("leads", bounds, ()),
            ("lead", bounds),
            ("ring", bounds),
            ("even", bounds),
            (bounds, "leads"),
            bounds,
            (),
            ("leads", *bounds),
        ):
            self.assertIs(judge_holds(ONE, paper), False)
        for paper in (
            ("ring", 0, (), (0,)),
            ("ring", 0, (), (0,), (), ()),
            ("leads", 0, (), (0,), ()),
            ("rings", 0, (), (0,), ()),
            (0, (), (0,), ()),
            ("ring",),
        ):
            self.assertIs(judge_holds(WIDE, paper), False)

    def test_triples_that_are_none(self):
        for triple in ((0, 0), (0, 0, 0, 0), (), (0,), 0, None, (0, 0, None), ("0", 0, 0), ONE, ONE_STEPPER):
            self.assertIs(judge_holds(STILL, ("leads", (triple,))), False)

    def test_nothing_is_changed(self):
        thing = ["leads", [[0, 0, 0], {"a": [1]}]]
        self.assertIs(judge_holds(ONE, thing), False)
        self.assertEqual(thing, ["leads", [[0, 0, 0], {"a": [1]}]])

    def test_by_name(self):
        self.assertIs(judge_holds(thing=("ring", 0, (), (0,), ()), pacer=WIDE), True)
