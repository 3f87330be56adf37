"""What the tests hand in: webs, things that are no webs, no places and no numbers."""

import itertools

from holdplaces.errors import PlaceError

GREAT = 10 ** 31 - 1  # the greatest number of thirty-one figures
GREATS = (GREAT, -GREAT, 10 ** 30, 10 ** 30 + 1)


def deep(make, depth):
    thing = make(1)
    for _ in range(depth - 1):
        thing = make(thing)
    return thing


# of anything, but no whole numbers
NO_WHOLES = (
    True, False, None, "", "0", "1", "3", "a", "row", (), (0,), (1,), (0, 1), [], [0], [1], [0, 1],
    {}, {0: 1}, {1: ()}, {"many": 1}, ((),), [[]], [()], ([],), (None,), ("1",), (True,), (1, ()),
    deep(lambda inner: [inner], 10), deep(lambda inner: (inner,), 10), deep(lambda inner: {"in": inner}, 10),
)

# no web whatever the number of places is
NO_WEBS = tuple(thing for thing in NO_WHOLES if thing != (1, ())) + GREATS + (
    0, 1, 8, -1,
    # the tuple itself
    (1, (), ()), (3, ((0, 1),), 0), [1, ()], [3, ((0, 1),)], ((), 1), {1: (), 2: ()}, "1 ", (((0, 1),), 3),
    # how many
    (0, ()), (9, ()), (-1, ()), (True, ()), (False, ()), (None, ()), ("1", ()), ("", ()), ((1,), ()), ([1], ()),
    ({}, ()), ({1: 1}, ()), (GREAT, ()), (-GREAT, ()), (9, ((0, 1),)), (9, ((7, 8),)), (0, ((0, 1),)),
    (True, ((0, 1),)),
    # the ties as a whole
    (1, []), (1, {}), (1, ""), (1, None), (1, 0), (1, True), (1, False), (3, [(0, 1)]), (3, {(0, 1): 1}), (3, "01"),
    (3, (0, 1)), (3, (0, (0, 1))), (3, {0: 1}), (3, [[0, 1]]), (3, GREAT),
    # one tie
    (3, ([0, 1],)), (3, ((),)), (3, ((0,),)), (3, ((0, 1, 2),)), (3, ("01",)), (3, ("ab",)), (3, (None,)),
    (3, (True,)), (3, ({},)), (3, ({0: 1, 1: 2},)), (3, (((0, 1),),)), (3, (((0, 1), 2),)), (3, (GREAT,)), (3, (1,)),
    # the places of a tie
    (3, ((True, 2),)), (3, ((False, 1),)), (3, ((0, True),)), (3, ((False, True),)), (3, (("0", 1),)),
    (3, ((0, "1"),)), (3, (("0", "1"),)), (3, ((None, 1),)), (3, ((0, None),)), (3, (([0], 1),)), (3, ((0, [1]),)),
    (3, ((0, {}),)), (3, (((0,), (1,)),)), (3, ((-1, 0),)), (3, ((-2, -1),)), (3, ((0, 3),)), (3, ((2, 3),)),
    (3, ((3, 4),)), (3, ((0, GREAT),)), (3, ((-GREAT, 1),)), (1, ((0, 1),)), (8, ((0, 8),)), (8, ((7, 8),)),
    # turned round, a place and itself
    (3, ((1, 0),)), (3, ((2, 1),)), (3, ((0, 0),)), (3, ((2, 2),)), (1, ((0, 0),)), (3, ((0, 1), (1, 0))),
    # ties that do not rise, or stand twice
    (3, ((0, 2), (0, 1))), (3, ((1, 2), (0, 1))), (3, ((1, 2), (0, 2))), (3, ((0, 1), (0, 1))),
    (3, ((0, 1), (1, 2), (0, 2))), (3, ((0, 1), (0, 2), (0, 2))), (4, ((0, 1), (2, 3), (1, 2))),
    (8, ((6, 7), (0, 1))),
    # a tie and what is none behind it or ahead of it
    (3, ((0, 1), None)), (3, (None, (0, 1))), (3, ((0, 1), [0, 2])), (3, ([0, 1], (0, 2))), (3, ((0, 1), (0, 2, 0))),
    (3, ((0, 1), (0,))), (3, ((0, 1), (0, "2"))), (3, (("0", 1), (0, 2))), (3, ((0, 1), (1, True))),
    (3, ((0, 1), (0, 3))), (3, ((0, 1), "02")), (3, ((0, 1), 2)), (3, ((0, 1), (0, 2), (True, 2))),
    (2, ((0, True),)), (2, ((0, True), (0, 1))), (2, ((0, 1), (0, True))),
)


def no_places(many):
    return NO_WHOLES + GREATS + (-1, many, many + 1, -many)


def webs_of(many):
    """All webs of so many places."""
    pairs = list(itertools.combinations(range(many), 2))
    for size in range(len(pairs) + 1):
        for ties in itertools.combinations(pairs, size):
            yield (many, ties)


def small_webs(most):
    for many in range(1, most + 1):
        yield from webs_of(many)


ALL_TIES_OF_8 = tuple(itertools.combinations(range(8), 2))

# webs of 8 places: no tie, one, some, all; trees and others; one piece and several
WEBS_OF_8 = (
    (8, ()),
    (8, ((0, 7),)),
    (8, ((6, 7),)),
    (8, ((0, 1), (1, 2), (2, 3), (3, 4), (4, 5), (5, 6), (6, 7))),
    (8, ((0, 1), (0, 7), (1, 2), (2, 3), (3, 4), (4, 5), (5, 6), (6, 7))),
    (8, ((0, 7), (1, 7), (2, 7), (3, 7), (4, 7), (5, 7), (6, 7))),
    (8, ((0, 6), (1, 5), (1, 6), (2, 4), (2, 5), (3, 4), (3, 7))),
    (8, ((0, 4), (1, 5), (2, 6), (3, 7))),
    (8, ((0, 2), (0, 4), (1, 3), (1, 5), (2, 4), (3, 5), (6, 7))),
    (8, ((0, 1), (0, 2), (1, 2), (3, 4), (3, 5), (4, 6), (5, 6))),
    (8, ((0, 1), (1, 2), (2, 3), (3, 4), (4, 5), (5, 6))),
    (8, ((0, 1), (0, 2), (1, 3), (2, 3), (3, 4), (4, 5), (5, 6), (5, 7), (6, 7))),
    (8, ALL_TIES_OF_8),
    (8, ALL_TIES_OF_8[1:]),
    (8, ALL_TIES_OF_8[:-1]),
)


def refuse(case, error, function, *handed):
    """Checks that function refuses what is handed in with just this class, and tells the refusal."""
    before = repr(handed)
    with case.subTest(function=function.__name__, handed=handed):
        with case.assertRaises(PlaceError) as caught:
            function(*handed)
        case.assertIs(type(caught.exception), error)
        case.assertEqual(repr(handed), before)
        return caught.exception
