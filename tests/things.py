"""What the tests hand in: webs, some, things that are none of these, and what several tests ask."""

import inspect
import itertools
import re

from holdplaces.errors import PlaceError

GREAT = 10 ** 31 - 1  # the greatest number of thirty-one figures
GREATS = (GREAT, -GREAT, 10 ** 30, 10 ** 30 + 1)


def deep(make, depth):
    thing = make(1)
    for _ in range(depth - 1):
        thing = make(thing)
    return thing


# of anything, but no whole numbers
NO_WHOLES = (
    True, False, None, "", "0", "1", "3", "a", "row", (), (0,), (1,), (0, 1), [], [0], [1], [0, 1],
    {}, {0: 1}, {1: ()}, {"many": 1}, ((),), [[]], [()], ([],), (None,), ("1",), (True,), (1, ()),
    deep(lambda inner: [inner], 10), deep(lambda inner: (inner,), 10), deep(lambda inner: {"in": inner}, 10),
)

# no web whatever the number of places is
NO_WEBS = tuple(thing for thing in NO_WHOLES if thing != (1, ())) + GREATS + (
    0, 1, 8, -1,
    # the tuple itself
    (1, (), ()), (3, ((0, 1),), 0), [1, ()], [3, ((0, 1),)], ((), 1), {1: (), 2: ()}, "1 ", (((0, 1),), 3),
    # how many
    (0, ()), (9, ()), (-1, ()), (True, ()), (False, ()), (None, ()), ("1", ()), ("", ()), ((1,), ()), ([1], ()),
    ({}, ()), ({1: 1}, ()), (GREAT, ()), (-GREAT, ()), (9, ((0, 1),)), (9, ((7, 8),)), (0, ((0, 1),)),
    (True, ((0, 1),)),
    # the ties as a whole
    (1, []), (1, {}), (1, ""), (1, None), (1, 0), (1, True), (1, False), (3, [(0, 1)]), (3, {(0, 1): 1}), (3, "01"),
    (3, (0, 1)), (3, (0, (0, 1))), (3, {0: 1}), (3, [[0, 1]]), (3, GREAT),
    # one tie
    (3, ([0, 1],)), (3, ((),)), (3, ((0,),)), (3, ((0, 1, 2),)), (3, ("01",)), (3, ("ab",)), (3, (None,)),
    (3, (True,)), (3, ({},)), (3, ({0: 1, 1: 2},)), (3, (((0, 1),),)), (3, (((0, 1), 2),)), (3, (GREAT,)), (3, (1,)),
    # the places of a tie
    (3, ((True, 2),)), (3, ((False, 1),)), (3, ((0, True),)), (3, ((False, True),)), (3, (("0", 1),)),
    (3, ((0, "1"),)), (3, (("0", "1"),)), (3, ((None, 1),)), (3, ((0, None),)), (3, (([0], 1),)), (3, ((0, [1]),)),
    (3, ((0, {}),)), (3, (((0,), (1,)),)), (3, ((-1, 0),)), (3, ((-2, -1),)), (3, ((0, 3),)), (3, ((2, 3),)),
    (3, ((3, 4),)), (3, ((0, GREAT),)), (3, ((-GREAT, 1),)), (1, ((0, 1),)), (8, ((0, 8),)), (8, ((7, 8),)),
    # turned round, a place and itself
    (3, ((1, 0),)), (3, ((2, 1),)), (3, ((0, 0),)), (3, ((2, 2),)), (1, ((0, 0),)), (3, ((0, 1), (1, 0))),
    # ties that do not rise, or stand twice
    (3, ((0, 2), (0, 1))), (3, ((1, 2), (0, 1))), (3, ((1, 2), (0, 2))), (3, ((0, 1), (0, 1))),
    (3, ((0, 1), (1, 2), (0, 2))), (3, ((0, 1), (0, 2), (0, 2))), (4, ((0, 1), (2, 3), (1, 2))),
    (8, ((6, 7), (0, 1))),
    # a tie and what is none behind it or ahead of it
    (3, ((0, 1), None)), (3, (None, (0, 1))), (3, ((0, 1), [0, 2])), (3, ([0, 1], (0, 2))), (3, ((0, 1), (0, 2, 0))),
    (3, ((0, 1), (0,))), (3, ((0, 1), (0, "2"))), (3, (("0", 1), (0, 2))), (3, ((0, 1), (1, True))),
    (3, ((0, 1), (0, 3))), (3, ((0, 1), "02")), (3, ((0, 1), 2)), (3, ((0, 1), (0, 2), (True, 2))),
    (2, ((0, True),)), (2, ((0, True), (0, 1))), (2, ((0, 1), (0, True))),
)


# no some whatever the number of places is
NO_SOMES = GREATS + (
    True, False, None, "", "0", "01", "0,1", "none", 0, 1, -1, 7, [], [0], [0, 1], [()], {}, {0: 1}, {0: 0, 1: 1},
    deep(lambda inner: [inner], 10), deep(lambda inner: (inner,), 10), deep(lambda inner: {"in": inner}, 10),
    # one thing in it that is no place
    (True,), (False,), (None,), ("0",), ("",), ([],), ([0],), ((),), ((0,),), ((0, 1),), ({},), ({0: 1},),
    (-1,), (8,), (9,), (99,), (GREAT,), (-GREAT,), (10 ** 30,),
    # a place and what is none behind it or ahead of it
    (0, True), (False, 1), (False, True), (0, "1"), ("0", 1), (0, None), (None, 0), (0, [1]), ([0], 1), (0, (1,)),
    ((0,), 1), (0, {}), (0, ()), (-1, 0), (0, 8), (0, GREAT), (-GREAT, 0), (0, 1, True), (0, 1, "2"), (0, 1, 2, None),
    # what does not rise or stands twice
    (0, 0), (1, 0), (2, 0), (7, 6), (0, 1, 1), (0, 0, 1), (0, 1, 0), (0, 2, 1), (2, 1, 0), (1, 0, 2), (7, 7),
    (0, False), (1, True), (True, True),
)

# of anything, but no texts
NO_TEXTS = tuple(thing for thing in NO_WHOLES if not isinstance(thing, str)) + GREATS + (
    0, 1, 3, -1, (3, ((0, 1),)), ["1"], ("1",), {"1": "1"}, ["3 0-1"], ("none",), ["none"], (0, 1), [["1"]], ["web"],
    ("web",), ["put", "0"], ("tie", "0", "1"), {"web": "1"}, [["back"]],
)

# no fractions
NO_PARTS = (
    1, 0, True, None, "1/2", "12", [1, 2], {1: 2}, (), (1,), (1, 1, 1), ((1, 2),), GREAT,
    # not in lowest terms
    (2, 2), (0, 2), (2, 4), (4, 2), (3, 3), (6, 4), (0, GREAT), (GREAT, GREAT), (GREAT, 3), (10 ** 30, 10),
    # a bottom of 0 or below, a top below 0
    (0, 0), (1, 0), (2, 0), (1, -1), (1, -2), (0, -1), (-1, 1), (-1, 2), (-1, -1), (-GREAT, 1), (1, -GREAT),
    # what are no whole numbers
    (True, 1), (False, 1), (1, True), (True, True), (False, True), ("1", 1), (1, "1"), ("1", "2"), (None, 1), (1, None),
    ([1], 1), (1, [1]), (1, (1,)), ((1, 1), 1), ((1, 1), (1, 1)), (1, {}), ({}, 1),
)


def no_places(many):
    return NO_WHOLES + GREATS + (-1, many, many + 1, -many)


def no_somes(many):
    places = tuple(range(many))
    return NO_SOMES + (
        (many,), (0, many), (many + 1,), places + (many,), places + (many - 1,), (0,) + places, (-1,) + places,
        places[::-1] + (0,), (many - 1, 0), list(places), {place: True for place in places}, places + (None,),
        (places,), "".join(str(place) for place in places),
    )


def no_shares(many):
    ones = ((1, 1),) * many
    things = NO_WHOLES + GREATS + (
        0, 1, many, ones[1:], ones + ((1, 1),), ones + ((0, 1),), ones * 2, (ones,), list(ones), (ones, ones),
        {place: (1, 1) for place in range(many)}, " ".join(["1/1"] * many), tuple(range(many)), (1,) * many,
        ([1, 1],) * many,
    )
    for part in NO_PARTS:
        things += ((part,) + ones[1:], ones[:-1] + (part,), (part,) * many, ones + (part,))
    return things


def webs_of(many):
    """All webs of so many places."""
    pairs = list(itertools.combinations(range(many), 2))
    for size in range(len(pairs) + 1):
        for ties in itertools.combinations(pairs, size):
            yield (many, ties)


def small_webs(most):
    for many in range(1, most + 1):
        yield from webs_of(many)


ALL_TIES_OF_8 = tuple(itertools.combinations(range(8), 2))

# webs of 8 places: no tie, one, some, all; trees and others; one piece and several
WEBS_OF_8 = (
    (8, ()),
    (8, ((0, 7),)),
    (8, ((6, 7),)),
    (8, ((0, 1), (1, 2), (2, 3), (3, 4), (4, 5), (5, 6), (6, 7))),
    (8, ((0, 1), (0, 7), (1, 2), (2, 3), (3, 4), (4, 5), (5, 6), (6, 7))),
    (8, ((0, 7), (1, 7), (2, 7), (3, 7), (4, 7), (5, 7), (6, 7))),
    (8, ((0, 6), (1, 5), (1, 6), (2, 4), (2, 5), (3, 4), (3, 7))),
    (8, ((0, 4), (1, 5), (2, 6), (3, 7))),
    (8, ((0, 2), (0, 4), (1, 3), (1, 5), (2, 4), (3, 5), (6, 7))),
    (8, ((0, 1), (0, 2), (1, 2), (3, 4), (3, 5), (4, 6), (5, 6))),
    (8, ((0, 1), (1, 2), (2, 3), (3, 4), (4, 5), (5, 6))),
    (8, ((0, 1), (0, 2), (1, 3), (2, 3), (3, 4), (4, 5), (5, 6), (5, 7), (6, 7))),
    (8, ALL_TIES_OF_8),
    (8, ALL_TIES_OF_8[1:]),
    (8, ALL_TIES_OF_8[:-1]),
)

# webs of 6 and 7 places: a row, a ring, a star, a block, all ties, several pieces, a crowned row
WEBS_BETWEEN = (
    (6, ((0, 1), (1, 2), (2, 3), (3, 4), (4, 5))),
    (6, ((0, 1), (0, 3), (1, 2), (1, 4), (2, 5), (3, 4), (4, 5))),
    (6, ((0, 1), (0, 3), (1, 2), (1, 4), (2, 5))),
    (6, ((0, 5), (1, 2), (1, 3), (2, 3))),
    (6, ()),
    (7, ((0, 1), (0, 6), (1, 2), (2, 3), (3, 4), (4, 5), (5, 6))),
    (7, ((0, 1), (0, 2), (0, 3), (0, 4), (0, 5), (0, 6))),
    (7, tuple(itertools.combinations(range(7), 2))),
    (7, ((0, 1), (0, 2), (1, 2), (3, 4), (4, 5), (5, 6))),
)


def sample_webs():
    return list(small_webs(5)) + list(WEBS_BETWEEN) + list(WEBS_OF_8)


def fewer_webs():
    """For what is asked of all some of a web: not all webs of 5 places."""
    return list(small_webs(4)) + list(webs_of(5))[::9] + list(WEBS_BETWEEN) + list(WEBS_OF_8)


def tree_of(code):
    """The tree of len(code) + 2 places that Pruefer's code, a tuple of any places, tells."""
    many = len(code) + 2
    left = list(range(many))
    ties = []
    for at, place in enumerate(code):
        leaf = min(one for one in left if one not in code[at:])
        ties.append((min(leaf, place), max(leaf, place)))
        left.remove(leaf)
    return (many, tuple(sorted(ties + [tuple(left)])))


def trees_of(many, every=1):
    """All trees of so many places, or one of every so many of them."""
    if many == 1:
        return [(1, ())]
    codes = itertools.product(range(many), repeat=many - 2)
    return [tree_of(code) for code in itertools.islice(codes, 0, None, every)]


def sample_trees():
    small = [tree for many in range(1, 6) for tree in trees_of(many)]
    return small + trees_of(6, 17) + trees_of(7, 211) + trees_of(8, 3331)


NO_TREES = (
    (2, ()), (3, ()), (3, ((0, 1),)), (3, ((0, 1), (0, 2), (1, 2))), (4, ((0, 1), (2, 3))),
    # as many ties as a tree has, but two pieces
    (4, ((0, 1), (0, 2), (1, 2))), (6, ((0, 1), (0, 2), (1, 2), (3, 4), (4, 5))),
    # one piece, but a tie too many
    (4, ((0, 1), (0, 3), (1, 2), (2, 3))), (5, ((0, 1), (0, 2), (1, 2), (2, 3), (3, 4))),
) + WEBS_OF_8[:3] + WEBS_OF_8[4:5] + WEBS_OF_8[7:]


def somes_of(web):
    """All some of a web, in the order of their sizes."""
    for size in range(web[0] + 1):
        yield from itertools.combinations(range(web[0]), size)


def reach(web):
    """For each place the set of those that it holds."""
    held = {place: {place} for place in range(web[0])}
    for a, b in web[1]:
        held[a].add(b)
        held[b].add(a)
    return held


def held_by(web, some):
    held = reach(web)
    return set().union(*(held[place] for place in some))


def hold_all(web, some):
    return len(held_by(web, some)) == web[0]


def less(some, place):
    return tuple(one for one in some if one != place)


def left_out_by_hand(web, some):
    """The last one that can be left out of some that hold all is left out, again and again."""
    going = True
    while going:
        going = False
        for place in reversed(some):
            if hold_all(web, less(some, place)):
                some = less(some, place)
                going = True
                break
    return some


def hoods_apart(web, some):
    held = reach(web)
    return all(held[one].isdisjoint(held[other]) for one, other in itertools.combinations(some, 2))


def apart_by_ties(web, some):
    return not any(pair in web[1] for pair in itertools.combinations(some, 2))


def text_of_web(web):
    text = str(web[0])
    for a, b in web[1]:
        text += f" {a}-{b}"
    return text


def text_of_some(some):
    return str(some).strip("(,)").replace(", ", ",") or "none"


def web_by_hand(text):
    """The web that a text writes, None where it writes none."""
    if not re.fullmatch("[1-8]( [0-7]-[0-7])*", text):
        return None
    many = int(text[0])
    ties = tuple((int(a), int(b)) for a, b in re.findall("([0-7])-([0-7])", text))
    places = all(a < b < many for a, b in ties)
    return (many, ties) if places and list(ties) == sorted(set(ties)) else None


def some_by_hand(web, text):
    """The some of a web that a text writes, None where it writes none."""
    if text == "none":
        return ()
    if not re.fullmatch("[0-7](,[0-7])*", text):
        return None
    some = tuple(int(figure) for figure in text.split(","))
    return some if list(some) == sorted(set(some)) and some[-1] < web[0] else None


def same(case, told, due, about=None):
    """Equal, and of the same kinds through and through: 1 is not True, a list no tuple."""
    case.assertEqual(repr(told), repr(due), about)


def check_arguments(case, module, told):
    for name, arguments in told.items():
        with case.subTest(name=name):
            parameters = inspect.signature(getattr(module, name)).parameters
            case.assertEqual(list(parameters), arguments)


def check_own_list(case, function, *handed):
    """Checks that the list told may be changed, and is told the same again."""
    before = repr(handed)
    told = function(*handed)
    case.assertIs(type(told), list)
    due = repr(told)
    told.reverse()
    told.append("more")
    told[0] = (9,)
    case.assertEqual(repr(function(*handed)), due)
    told.clear()
    case.assertEqual(repr(function(*handed)), due)
    case.assertEqual(repr(handed), before)


def refuse(case, error, function, *handed):
    """Checks that function refuses what is handed in with just this class, and tells the refusal."""
    before = repr(handed)
    with case.subTest(function=function.__name__, handed=handed):
        with case.assertRaises(PlaceError) as caught:
            function(*handed)
        case.assertIs(type(caught.exception), error)
        case.assertEqual(repr(handed), before)
        return caught.exception
