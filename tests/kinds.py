"""Things of whatever kind, and webs, lists and sizes, for the tests."""

from itertools import combinations

BIG = 10 ** 30 - 1
ALL_TIES = tuple(combinations(range(6), 2))


def nested(make, depth=20):
    """A thing that is so many deep, each level made around the one within."""
    thing = 1
    for level in range(depth):
        thing = make(thing)
    return thing


# None of these is a whole number from 0 to 99, and none a tuple of such numbers.
ODD = (
    True, False, None,
    "", "0", "1", "a", "3 0-1 1-2 : 0,1 2 -", "x" * 1000,
    BIG, -BIG, -1,
    [], [0], [0, 1], [()], [(0, 1)],
    {}, {0: 1}, {"a": None}, {(0, 1): [0]}, {0: (), 1: ()},
    (None,), (True,), (False,), ("0",), ([],), ({},), ((),), ((((),),),),
    (True, False), (0, True), (0, None), (0, "1"), ("0", 1), ([0], [1]), ({}, {}),
    (BIG,), (0, BIG), (-BIG, BIG), (-1,), (-1, 0),
    nested(lambda thing: [thing]),
    nested(lambda thing: (thing,)),
    nested(lambda thing: {0: thing}),
    nested(lambda thing: {"a": (thing, [None])}, 10),
    nested(lambda thing: (thing, thing), 10),
)

# Each of these is a thing of the same look as the number 1, but no whole number.
NO_WHOLE = (True, False, None, "1", [1], (1,), (), {}, {1: 1})

# What is no web, of whatever kind, each with one thing wrong.
BAD_WEBS = ODD + (
    0, 1, 3, (), (1,), (1, (), ()), (3, ((0, 1),), None),
    (0, ()), (7, ()), (-1, ()), (BIG, ()), (-BIG, ()),
    (True, ()), (False, ()), (None, ()), ("1", ()), ([1], ()), ((1,), ()), ({}, ()),
    (2, None), (2, True), (2, 0), (2, ""), (2, "01"), (2, []), (2, [(0, 1)]), (2, {}), (2, {(0, 1): 1}),
    [2, ((0, 1),)], [1, ()], {2: ((0, 1),)}, "2 0-1",
    (3, ((1, 2), (0, 1))), (3, ((0, 2), (0, 1))), (3, ((0, 1), (1, 2), (0, 2))),
    (3, ((0, 1), (0, 1))), (3, ((0, 1), (1, 2), (1, 2))),
    (3, ((0, 3),)), (3, ((3, 4),)), (3, ((0, BIG),)), (3, ((-1, 0),)), (3, ((-BIG, 0),)), (1, ((0, 1),)),
    (6, ((5, 6),)),
    (3, ((0, 0),)), (3, ((2, 2),)), (3, ((1, 0),)), (3, ((0, 1), (2, 1))),
    (3, (0, 1)), (3, ((0,),)), (3, ((0, 1, 2),)), (3, ((),)), (3, ((0, 1), ())), (3, ((0, 1), None)),
    (3, ([0, 1],)), (3, ("01",)), (3, ({0: 1},)), (3, ({0: 1, 1: 2},)), (3, (None,)), (3, (True,)), (3, (1,)),
    (3, ((0, True),)), (3, ((False, 1),)), (3, ((False, True),)), (3, ((False, 2),)), (3, ((True, 2),)),
    (3, ((0, None),)), (3, ((None, 1),)), (3, ((0, "1"),)), (3, (("0", 1),)), (3, ((0, [1]),)), (3, ((0, (1,)),)),
    (3, (((0,), 1),)), (3, ((0, {}),)), (3, (((0, 1), (0, 2)),)),
    (2, nested(lambda thing: (thing,), 18)), (2, (nested(lambda thing: [thing], 17),)),
    (2, ((0, nested(lambda thing: {1: thing}, 16)),)),
)

GOOD_WEBS = (
    (1, ()), (2, ()), (6, ()), (2, ((0, 1),)), (3, ((0, 1), (1, 2))), (3, ((0, 1), (0, 2), (1, 2))),
    (4, ((0, 2), (1, 2), (1, 3))), (6, ((4, 5),)), (6, ((0, 1), (0, 2), (1, 2), (3, 4))), (6, ALL_TIES),
)

TWO = (2, ((0, 1),))
EIGHT = (0, 1, 2, 3, 4, 5, 6, 99)
NINE = (0, 1, 2, 3, 4, 5, 6, 7, 99)

# One place's hues: such as are, and such as are none.
GOOD_HUES = ((), (0,), (99,), (0, 99), (1, 2), EIGHT, (92, 93, 94, 95, 96, 97, 98, 99))
BAD_HUES = (
    NINE, tuple(range(100)), (100,), (0, 100), (-1,), (-1, 0), (BIG,), (-BIG,),
    (1, 0), (0, 2, 1), (0, 0), (0, 1, 1), (99, 99), EIGHT[::-1],
    (True,), (False,), (0, True), (False, 1), (None,), (0, None), ("0",), (0, "1"), ([0],), ((0,),), ({},), ((),),
    None, True, False, 0, 1, "", "0", [], [0], [0, 1], {}, {0: 1},
    nested(lambda thing: (thing,), 18), nested(lambda thing: [thing], 18), nested(lambda thing: {0: thing}, 18),
)

# What is no lists of TWO, of whatever kind.
BAD_LISTS = ODD + (
    (), ((),), ((0,),), ((), (), ()), ((0,), (1,), (2,)), [(), ()], [(0,), (1,)], {0: (0,), 1: (1,)},
) + tuple(((0,), hues) for hues in BAD_HUES) + tuple((hues, (0,)) for hues in BAD_HUES)

# What is no place of a web of six, of whatever kind.
BAD_PLACES = ODD + (6, 7, 10 ** 29, (), (0,), (1,), (0, 1), [1], {1: 1})

# What is no sizes of TWO, of whatever kind; nor of a web of six places.
BAD_SIZES = ODD + (
    (), (1,), (1, 1, 1), [1, 1], {0: 1, 1: 1}, "11", 2, ((1, 1),), ((1,), (1,)), (1, 9), (9, 1), (1, -1), (-1, 1),
    (1, BIG), (1, True), (False, 1), (None, 1), (1, "1"), ([1], 1), (1, (1,)), (1, {}),
)
