"""Values of all kinds, pacers and steppers, that several tests need."""

from evenlead.pacers import Pacer
from evenlead.steppers import Stepper

ONE = Pacer(2, (0,), ((0, "a", "", 1), (1, "", "b", 0)), (0,))
WIDE = Pacer(1, (0,), ((0, "a", "bb", 0),), (0,))
SHIFT = Pacer(2, (0,), ((0, "", "a", 1), (1, "a", "a", 1), (1, "b", "b", 1)), (1,))
# Tells nothing, as it has no begins and no ends.
MUTE = Pacer(1, (), (), ())
# Tells the pair of two empty texts alone, by a begin that is an end.
STILL = Pacer(1, (0,), (), (0,))
# Has rings of empty moves, a move twice, a state that is not useful, words of two letters.
RINGS = Pacer(
    4,
    (0, 2),
    (
        (0, "", "", 1),
        (1, "", "", 0),
        (1, "ab", "", 2),
        (2, "", "", 2),
        (2, "", "ba", 0),
        (2, "", "ba", 0),
        (0, "b", "b", 3),
    ),
    (1,),
)
PACERS = (ONE, WIDE, SHIFT, MUTE, STILL, RINGS)

ONE_STEPPER = Stepper(((("a", "b", 0),),), (0,))
SHIFT_STEPPER = Stepper(
    ((("-", "a", 1), ("a", "a", 0), ("b", "a", 2)), (), (("-", "b", 1), ("a", "b", 0), ("b", "b", 2))), (1,)
)
SAME = Stepper(((("a", "a", 0), ("b", "b", 0)),), (0,))
# Tells nothing.
NONE_TOLD = Stepper(((),), ())
STEPPERS = (ONE_STEPPER, SHIFT_STEPPER, SAME, NONE_TOLD)


def nested(depth, kind):
    """A tuple or a list nested so deep."""
    value = kind()
    for _ in range(depth):
        value = kind([value])
    return value


ODD_VALUES = (
    None,
    True,
    False,
    0,
    1,
    -1,
    7,
    10**39,
    -(10**39),
    "",
    "a",
    "-",
    "A",
    "ab c",
    "~",
    "\n",
    "x" * 2000,
    (),
    [],
    {},
    (0,),
    [0],
    (None,),
    (True,),
    ("a", "b"),
    ["a", "b"],
    {"a": "b"},
    {0: (1, [2])},
    ((0, "a", "b", 0),),
    [(0, "a", "b", 0)],
    (("a", "b"),),
    [("a", "b")],
    (["a", "b"],),
    nested(29, tuple),
    nested(29, list),
    (None,) * 2999,
    ONE,
    [ONE],
    (WIDE, (SHIFT, {"pacer": MUTE})),
    ONE_STEPPER,
    NONE_TOLD,
    [SAME],
    ({"stepper": SHIFT_STEPPER},),
)
