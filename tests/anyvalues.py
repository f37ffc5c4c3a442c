"""Values for the tests: right ones of each kind, and many that are none."""
from manydeep.yards import Yard

TIE = (2, ((0, 1, 0),))
BARE = (2, ())
LONE = (1, ())
FORKED = (3, ((0, 1, 0), (0, 2, 1)))
ROW = (3, ((0, 2, 0), (2, 1, 0)))
TWICE = (2, ((0, 1, 0), (0, 1, 0), (1, 0, 2)))
RING = (4, ((0, 2, 0), (0, 3, 0), (2, 1, 0), (3, 1, 0)))
WIDE = (14, tuple((place, place + 1, place % 3) for place in range(13)))

WEBS = (LONE, (5, ()), TIE, BARE, FORKED, ROW, TWICE, RING, WIDE, (2, ((1, 0, 0),)), (2, ((0, 1, 2),)), (10 ** 99, ()))

GARDENS = (
    (TIE, (TIE,)),
    (LONE, (BARE,)),
    (FORKED, (ROW, FORKED)),
    (TWICE, (TIE, FORKED, TWICE)),
    (BARE, (BARE, BARE, (2, ((0, 1, 2),)))),
    ((2, ((0, 1, 2),)), (RING, RING, RING)),
)

YARD = Yard((TIE, (TIE,)))
KEPT = Yard((FORKED, (ROW, FORKED)))
KEPT.deal((("promise", ("sided",)), ("promise", ("joined",))))
WITH_YARDS = (
    YARD, KEPT, (YARD,), [YARD], {0: YARD}, (YARD, YARD), (2, YARD), (YARD, ()), (2, (YARD,)), (2, ((YARD, 1, 0),)), (2, ((0, 1, YARD),)), (TIE, YARD),
    (YARD, (TIE,)), (TIE, (YARD,)), (TIE, (TIE, YARD)), ("not", YARD), ("and", ("joined",), YARD), (("joined",), YARD), ("hues", YARD), ("far", YARD, YARD, 1),
    ("yes", YARD), ("always", (YARD,)), ("fails", YARD), (YARD, 0), ("plan", YARD, (YARD,)), ({"joined": YARD},), ((YARD, YARD, YARD), [YARD, (YARD,)]),
)

# Values that are of no kind at all, whatever is asked for.
STRANGE = WITH_YARDS + (
    None, True, False, 0, 1, -1, 2, 10 ** 99, "", "web", "places 2", "places 2\n0 1 0", (), [], {}, ((),), (None,), (None, None),
    (True, ()), (1, []), [1, ()], (1, {}), (1, None), (1, ""), ("1", ()), {1: ()}, (1,), ((), 1), (1, (), ()),
    (0, ()), (-1, ()), (-(10 ** 99), ()), ((1,), ()), ((((((((((((),),),),),),),),),),),), "x" * 2000, (0,) * 3000,
)

# Tuples that are nearly webs.
NEAR_WEBS = (
    (2, ((0, 0, 0),)), (2, ((1, 1, 1),)),                                # equal ends
    (2, ((0, 2, 0),)), (2, ((2, 0, 0),)), (2, ((-1, 0, 0),)), (2, ((0, -1, 0),)), (1, ((0, 1, 0),)),
    (2, ((0, 1, 3),)), (2, ((0, 1, -1),)), (2, ((0, 1, 10 ** 99),)),     # kinds out of bounds
    (2, ((False, 1, 0),)), (2, ((0, True, 0),)), (2, ((0, 1, False),)), (2, ((0, 1, True),)), (True, ()),
    (2, ([0, 1, 0],)), (2, [(0, 1, 0)]), [2, ((0, 1, 0),)], (2, ({0: 1},)), (2, {(0, 1, 0): True}),
    (2, ((0, 1),)), (2, ((0, 1, 0, 0),)), (2, ((),)), (2, (0, 1, 0)), (2, ("010",)), (2, (None,)), (2, ((0, 1, None),)),
    (2, (("0", 1, 0),)), (2, ((0, "1", 0),)), (2, ((0, 1, "0"),)), (2, "010"), (2, ((0, 1, (0,)),)), (2, ((0, 1, [0]),)),
    (2, ((0, 1, 1), (0, 1, 0))), (2, ((1, 0, 0), (0, 1, 0))), (3, ((0, 2, 0), (0, 1, 0))),           # unsorted
    (3, ((0, 1, 0), (0, 2, 0), (0, 1, 0))), (2, ((0, 1, 0),), ()), (2,), ((0, 1, 0),), (((0, 1, 0),), 2),
    (2, ((0, 1, 0), None)), (2, (None, (0, 1, 0))), (2, ((0, 1, 0), (0, 1, "0"))), (2, ((0, 1, 0), [0, 1, 0])),
    (0, ((0, 1, 0),)), (-2, ((0, 1, 0),)), ("2", ((0, 1, 0),)), (None, ((0, 1, 0),)), (2, None),
)
NO_WEBS = STRANGE + NEAR_WEBS
NO_GROWTHS = NO_WEBS + (LONE,)
NO_BOOKS = STRANGE + NEAR_WEBS + (
    TIE, FORKED, [TIE], (TIE, None), (TIE, TIE, TIE, TIE), (LONE,), (TIE, LONE), (FORKED,), (TIE, (2, ((0, 1, 2),))),
    ((2, ((0, 1, 1),)),), ((2, ((0, 1, 2),)), TIE), ((TIE,),), (TIE, [2, ()]), {0: TIE}, (TIE, True),
) + tuple((near,) for near in NEAR_WEBS)
NO_GARDENS = STRANGE + NEAR_WEBS + WEBS + (
    (FORKED, (TIE,)), (TIE, ()), (TIE, TIE), (TIE, [TIE]), [TIE, (TIE,)], (TIE, (TIE,), ()), (TIE,), ((TIE,), TIE),
    (TIE, (LONE,)), (TIE, (TIE, TIE, TIE, TIE)), ((2, ((0, 1, 2),)), (TIE, TIE)), (TIE, (FORKED,)), (None, (TIE,)),
    (TIE, None), {0: TIE, 1: (TIE,)}, (TIE, (TIE, None)), (TIE, (TIE, (2, ((0, 1, 2),)))), (TIE, True),
) + tuple((near, (TIE, TIE, TIE)) for near in NEAR_WEBS) + tuple((TIE, (near, TIE, TIE)) for near in NEAR_WEBS)


def raised(function, *rest, **more):
    """The error that a call raises: its class's name and its attributes; None if it raises none."""
    try:
        function(*rest, **more)
    except Exception as error:
        return (type(error).__name__, vars(error))
    return None

NO_INTEGERS = (None, True, False, "", "1", (), (1,), (None,), [], [1], {}, {1: 1}, TIE, (TIE, (TIE,)))
NO_NUMBERS = NO_INTEGERS + (-1, -2, -(10 ** 99))

NO_WISHES = STRANGE + NEAR_WEBS + WEBS + (
    "joined", ["joined"], ("joined", 1), ("joined", ()), ("joined", None), (("joined",),), ("join",), ("Joined",), ("",),
    ("sided", 2), ("paired", 0), ("round", 1), ("ringed", True), ("whole", ()), ("even", 2), {"joined": 1}, (b"joined",),
    ("hues",), ("hues", 0), ("hues", 6), ("hues", -1), ("hues", True), ("hues", "3"), ("hues", (3,)), ("hues", 3, 3),
    ["hues", 3], ("hues", [3]), ("hues", None), ("hues", 10 ** 99),
    ("number", 0, 2), ("number", 0, 2, 1, 0), ("number", 3, 2, 1), ("number", -1, 2, 1), ("number", False, 2, 1),
    ("number", 0, 1, 0), ("number", 0, 13, 0), ("number", 0, True, 0), ("number", 0, 2, 2), ("number", 0, 2, -1),
    ("number", 0, 2, True), ("number", 0, 2, False), ("number", "0", 2, 1), ("number", 0, "2", 1), ("number", 0, 2, "1"),
    ("number", 0, 12, 12), ("number", None, None, None), ["number", 0, 2, 1], ("number", 0, 0, 0), ("number", (0, 2, 1)),
    ("far", 0, 1), ("far", 0, 1, 0), ("far", 0, 1, 13), ("far", 0, 0, 3), ("far", -1, 0, 3), ("far", 0, -1, 3),
    ("far", True, 0, 3), ("far", 0, True, 3), ("far", False, 1, 3), ("far", 0, 1, True), ("far", "0", 1, 3),
    ("far", 0, None, 3), ("far", 0, 1, "3"), ("far", 0, 1, 3, 0), ["far", 0, 1, 3], ("far", (0, 1), 3), ("far", [], [], 3),
    ("apart", 0, 1), ("apart", 0, 1, 0), ("apart", 0, 1, 7), ("apart", 2, 2, 3), ("apart", -1, 0, 3),
    ("apart", 0, -1, 3), ("apart", True, 0, 3), ("apart", 0, True, 3), ("apart", 0, 1, True), ("apart", 0, 1, "1"),
    ("near", 0, 1, 3), ("Far", 0, 1, 3), ("", 0, 1, 1), ("joined", 0, 1, 1), (0, 0, 1, 1), ((), 0, 1, 1), ("hue", 2), ("even", 0, 2, 1),
    ("apart", 0, 1, 3, 0), ["apart", 0, 1, 3], ("apart", 0, 1, -1), ("apart", None, 1, 1), ("apart", 0, {}, 1),
    ("not",), ("not", "joined"), ("not", ["joined"]), ("not", ("joined",), ("joined",)), ("not", ("hues", 6)), ("not", None),
    ["not", ("joined",)], ("not", ("not",)), ("not", ("joined", 1)), ("Not", ("joined",)), ("not", ()), ("not", {}),
    ("and",), ("and", ("joined",)), ("and", ("joined",), ("sided",), ("even",)), ("and", ("joined",), None),
    ("and", None, ("joined",)), ("and", ("joined",), ["sided"]), ("and", ("joined",), ("hues", True)),
    ("and", ("hues", 0), ("sided",)), ["and", ("joined",), ("sided",)], ("and", (("joined",), ("sided",))),
    ("or",), ("or", ("joined",)), ("or", ("joined",), ("sided",), ("even",)), ("or", ("joined",), "sided"),
    ("or", ("far", 0, 0, 1), ("joined",)), ["or", ("joined",), ("sided",)], ("or", ("joined",), ("or", ("joined",))),
    ("xor", ("joined",), ("sided",)), (("and",), ("joined",), ("sided",)), ([], ("joined",)), ({}, ("joined",), ("sided",)),
    ("not", ("and", ("joined",), ("or", ("sided",), ("not", ("hues", 9))))),
)
