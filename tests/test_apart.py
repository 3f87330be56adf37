"""0.2, 0.3, 0.4, 7.1 to 7.5 and the interface of apart.py."""

import itertools
import unittest

from holdplaces import apart
from holdplaces.apart import (
    fewest_others, fewest_telling, first_alike, first_others, first_telling, least_marks, marks, place_by, tells_apart,
    tells_others, twins,
)
from holdplaces.errors import NoNumber, NoPlaces, NotTold, NoWeb
from holdplaces.kinds import beside, crowned, full, ring, row, star
from things import (
    GREAT, GREATS, NO_SOMES, NO_WEBS, NO_WHOLES, WEBS_OF_8, check_arguments, check_own_list, fewer_webs, no_somes,
    reach, refuse, same, sample_webs, somes_of,
)

ONE_PLACE = (1, ())
SOME_WEBS = (ONE_PLACE, row(2), row(4), (4, ()), star(5), beside(ring(4), row(1)), full(8), (8, ()), ring(8))
# of a web alone, and of a web and a thing
OF_A_WEB = (twins, fewest_telling, first_telling, fewest_others, first_others)
OF_SOME = (marks, first_alike)
OF_A_THING = (tells_apart, tells_others)


def marks_by_hand(web, some):
    held = reach(web)
    return [tuple(one for one in some if place in held[one]) for place in range(web[0])]


def unlike_and_full(found):
    return len(set(found)) == len(found) and () not in found


def tells_by_hand(web, some):
    return unlike_and_full(marks_by_hand(web, some))


def others_by_hand(web, some):
    found = marks_by_hand(web, some)
    return unlike_and_full([found[place] for place in range(web[0]) if place not in some])


def twins_by_hand(web):
    held = reach(web)
    return [pair for pair in itertools.combinations(range(web[0]), 2) if held[pair[0]] == held[pair[1]]]


def first_by_hand(web, is_one):
    """somes_of goes by size, and rises within each."""
    return next((some for some in somes_of(web) if is_one(web, some)), None)


class Interface(unittest.TestCase):
    def test_arguments_stand_in_the_order_told(self):
        told = {function.__name__: ["web"] for function in OF_A_WEB}
        told.update({function.__name__: ["web", "some"] for function in OF_SOME})
        told.update({function.__name__: ["web", "thing"] for function in OF_A_THING})
        told.update({"place_by": ["web", "some", "mark"], "least_marks": ["n"]})
        check_arguments(self, apart, told)


class Marks(unittest.TestCase):
    def test_ordinary_some(self):
        same(self, marks(row(4), (0, 2)), ((0,), (0, 2), (2,), (2,)))
        same(self, marks(row(4), (1,)), ((1,), (1,), (1,), ()))
        same(self, marks(full(3), (0, 2)), ((0, 2), (0, 2), (0, 2)))
        same(self, marks(beside(row(2), row(2)), (1, 2)), ((1,), (1,), (2,), (2,)))
        same(self, first_alike(row(4), (0, 2)), (2, 3))
        same(self, first_alike(row(4), (1,)), (0, 1))
        same(self, first_alike(row(4), (0, 1, 2)), None)
        same(self, first_alike(ring(5), (0,)), (0, 1))
        same(self, first_alike(ring(5), (2,)), (0, 4))
        # alike they may be by being empty
        same(self, first_alike(row(5), (2,)), (0, 4))
        same(self, first_alike(row(3), (0, 2)), None)

    def test_edges(self):
        same(self, (marks(ONE_PLACE, ()), marks(ONE_PLACE, (0,))), (((),), ((0,),)))
        same(self, (first_alike(ONE_PLACE, ()), first_alike(ONE_PLACE, (0,))), (None, None))
        same(self, (marks((8, ()), ()), first_alike((8, ()), ())), (((),) * 8, (0, 1)))
        same(self, marks((8, ()), tuple(range(8))), tuple((place,) for place in range(8)))
        same(self, marks(full(8), tuple(range(8))), (tuple(range(8)),) * 8)
        same(self, first_alike(beside(row(1), full(7)), tuple(range(8))), (1, 2))
        same(self, first_alike((8, ((6, 7),)), tuple(range(8))), (6, 7))

    def test_all_some_of_many_webs(self):
        for web in fewer_webs():
            for some in somes_of(web):
                found = marks_by_hand(web, some)
                same(self, marks(web, some), tuple(found), (web, some))
                alike = [(a, b) for a, b in itertools.combinations(range(web[0]), 2) if found[a] == found[b]]
                same(self, first_alike(web, some), alike[0] if alike else None, (web, some))


class TellsApart(unittest.TestCase):
    def test_ordinary_some(self):
        same(self, tells_apart(row(4), (0, 1, 2)), True)
        same(self, tells_apart(row(4), (0, 1, 2, 3)), True)
        same(self, tells_apart(row(4), (0, 2)), False)
        same(self, tells_apart(row(3), (0, 2)), True)
        # no two alike, but an empty one
        same(self, tells_apart(beside(row(3), row(1)), (0, 2)), False)
        # none empty, but two alike
        same(self, tells_apart(row(3), (0, 1)), False)
        same(self, tells_apart(ring(6), (0, 2, 4)), True)
        same(self, tells_apart(row(2), (0, 1)), False)

    def test_edges(self):
        same(self, (tells_apart(ONE_PLACE, ()), tells_apart(ONE_PLACE, (0,))), (False, True))
        same(self, (tells_apart((8, ()), tuple(range(8))), tells_apart((8, ()), tuple(range(7)))), (True, False))
        same(self, tells_apart(full(8), tuple(range(8))), False)

    def test_all_some_of_many_webs(self):
        for web in fewer_webs():
            for some in somes_of(web):
                due = tells_by_hand(web, some)
                same(self, tells_apart(web, some), due, (web, some))
                if due:
                    same(self, tells_others(web, some), True, (web, some))

    def test_of_anything(self):
        for web in SOME_WEBS:
            for thing in no_somes(web[0]):
                before = repr(thing)
                for function in OF_A_THING:
                    same(self, function(web, thing), False, (web, thing))
                same(self, thing, eval(before))

    def test_telling_some_as_other_things(self):
        for thing in ([0, 1, 2], (False, 1, 2), (0, True, 2), (0, 2, 1), (0, 1, 2, 2), "0,1,2", {0: 0, 1: 1, 2: 2},
                      ((0, 1, 2),), (0, 1, "2"), (0, 1, (2,)), [(0, 1, 2)], (0, 1, 2, 4), (-1, 0, 1, 2)):
            for function in OF_A_THING:
                same(self, function(row(4), thing), False, thing)


class Twins(unittest.TestCase):
    def test_ordinary_webs(self):
        same(self, twins(row(2)), [(0, 1)])
        same(self, twins(full(3)), [(0, 1), (0, 2), (1, 2)])
        same(self, twins(row(4)), [])
        same(self, twins(ring(4)), [])
        # the ends of a star have unlike hoods: each has itself
        same(self, twins(star(4)), [])
        same(self, twins(beside(row(2), full(3))), [(0, 1), (2, 3), (2, 4), (3, 4)])
        same(self, twins((4, ((0, 1), (0, 2), (0, 3), (1, 2)))), [(1, 2)])

    def test_edges(self):
        same(self, (twins(ONE_PLACE), twins((2, ())), twins((8, ()))), ([], [], []))
        same(self, twins(full(8)), list(itertools.combinations(range(8), 2)))
        same(self, twins((8, ((6, 7),))), [(6, 7)])

    def test_many_webs(self):
        for web in sample_webs():
            due = twins_by_hand(web)
            same(self, twins(web), due, web)
            same(self, tells_apart(web, tuple(range(web[0]))), due == [], web)
            same(self, first_alike(web, tuple(range(web[0]))), due[0] if due else None, web)
            if due:
                self.assertFalse(any(tells_by_hand(web, some) for some in somes_of(web)), web)

    def test_the_list_told_is_the_askers_own(self):
        for web in SOME_WEBS + (full(3), beside(row(2), full(3))):
            check_own_list(self, twins, web)


class PlaceBy(unittest.TestCase):
    def test_ordinary_marks(self):
        same(self, place_by(row(4), (0, 1, 2), (0, 1)), 0)
        same(self, place_by(row(4), (0, 1, 2), (0, 1, 2)), 1)
        same(self, place_by(row(4), (0, 1, 2), (1, 2)), 2)
        same(self, place_by(row(4), (0, 1, 2), (2,)), 3)
        for mark in ((), (0,), (1,), (0, 2), (3,), (2, 3), (0, 1, 2, 3)):
            same(self, place_by(row(4), (0, 1, 2), mark), None, mark)

    def test_edges(self):
        same(self, (place_by(ONE_PLACE, (0,), (0,)), place_by(ONE_PLACE, (0,), ())), (0, None))
        same(self, place_by((8, ()), tuple(range(8)), (7,)), 7)
        same(self, place_by((8, ()), tuple(range(8)), (6, 7)), None)

    def test_all_some_and_marks_of_many_webs(self):
        for web in fewer_webs():
            for some in somes_of(web):
                if not tells_by_hand(web, some):
                    with self.assertRaises(NotTold):
                        place_by(web, some, (0,))
                    continue
                found = marks_by_hand(web, some)
                for mark in somes_of(web):
                    due = found.index(mark) if mark in found else None
                    same(self, place_by(web, some, mark), due, (web, some, mark))

    def test_marks_of_anything(self):
        for web in ((1, ()), row(3), row(4), (4, ()), ring(8), (8, ())):
            for mark in no_somes(web[0]):
                before = repr(mark)
                same(self, place_by(web, tuple(range(web[0])), mark), None, (web, mark))
                same(self, mark, eval(before))

    def test_marks_as_other_things(self):
        for mark in ([0, 1], (False, 1), (0, True), (False, True), (1, 0), (0, 1, 1), "0,1", {0: 0, 1: 1}, ((0, 1),),
                     (0, "1"), "(0, 1)", [(0, 1)], 0, 1, (0, 1, None)):
            same(self, place_by(row(4), (0, 1, 2), mark), None, mark)
        # what equals a mark without being one
        same(self, place_by((3, ()), (0, 1, 2), (True,)), None)
        same(self, place_by((3, ()), (0, 1, 2), (False,)), None)
        same(self, place_by((3, ()), (0, 1, 2), (1,)), 1)


class Telling(unittest.TestCase):
    def test_ordinary_webs(self):
        same(self, (fewest_telling(row(4)), first_telling(row(4))), (3, (0, 1, 2)))
        same(self, (fewest_telling(row(3)), first_telling(row(3))), (2, (0, 2)))
        same(self, (fewest_telling(ring(6)), first_telling(ring(6))), (3, (0, 2, 4)))
        same(self, (fewest_telling(star(4)), first_telling(star(4))), (3, (0, 1, 2)))
        same(self, (fewest_telling((3, ())), first_telling((3, ()))), (3, (0, 1, 2)))
        same(self, (fewest_telling(crowned(row(2))), first_telling(crowned(row(2)))), (3, (0, 1, 2)))

    def test_none_where_there_are_twins(self):
        for web in (row(2), full(3), full(8), beside(row(2), row(3)), beside(ring(4), row(2)), (8, ((6, 7),))):
            same(self, (fewest_telling(web), first_telling(web)), (None, None), web)

    def test_edges(self):
        same(self, (fewest_telling(ONE_PLACE), first_telling(ONE_PLACE)), (1, (0,)))
        same(self, (fewest_telling((8, ())), first_telling((8, ()))), (8, tuple(range(8))))

    def test_many_webs(self):
        for web in sample_webs():
            due = first_by_hand(web, tells_by_hand)
            same(self, first_telling(web), due, web)
            same(self, fewest_telling(web), None if due is None else len(due), web)
            same(self, due is None, twins(web) != [], web)
            if due is not None:
                self.assertGreaterEqual(fewest_telling(web), least_marks(web[0]), web)


class LeastMarks(unittest.TestCase):
    def test_ordinary_numbers(self):
        same(self, [least_marks(n) for n in range(1, 18)], [1, 2, 2, 3, 3, 3, 3, 4, 4, 4, 4, 4, 4, 4, 4, 5, 5])

    def test_by_the_words(self):
        numbers = list(range(1, 600)) + [2 ** k + more for k in range(9, 99) for more in (-2, -1, 0, 1)]
        for n in numbers + [10 ** k for k in range(31)] + [10 ** 30 - 1]:
            due = next(k for k in range(200) if 2 ** k - 1 >= n)
            same(self, least_marks(n), due, n)

    def test_edges(self):
        same(self, (least_marks(1), least_marks(10 ** 30)), (1, 100))

    def test_no_number(self):
        for thing in NO_WHOLES + (0, -1, -2, -10 ** 30, 10 ** 30 + 1, 10 ** 30 + 2, GREAT, -GREAT, "1", "10"):
            refuse(self, NoNumber, least_marks, thing)


class Others(unittest.TestCase):
    def test_ordinary_some(self):
        same(self, tells_others(row(4), (0, 3)), True)
        same(self, tells_others(row(4), (1, 2)), True)
        same(self, tells_others(row(4), (0, 2)), True)
        same(self, tells_others(row(4), (0, 1)), False)
        same(self, tells_others(star(4), (0, 1)), False)
        same(self, tells_others(star(4), (0, 1, 2)), True)
        same(self, tells_others(full(3), (0, 1)), True)
        same(self, (fewest_others(row(4)), first_others(row(4))), (2, (0, 2)))
        same(self, (fewest_others(star(4)), first_others(star(4))), (3, (0, 1, 2)))
        same(self, (fewest_others(full(3)), first_others(full(3))), (2, (0, 1)))
        same(self, (fewest_others(row(2)), first_others(row(2))), (1, (0,)))
        same(self, (fewest_others(ring(5)), first_others(ring(5))), (2, (0, 2)))

    def test_edges(self):
        same(self, (tells_others(ONE_PLACE, ()), tells_others(ONE_PLACE, (0,))), (False, True))
        same(self, (fewest_others(ONE_PLACE), first_others(ONE_PLACE)), (1, (0,)))
        same(self, (fewest_others((8, ())), first_others((8, ()))), (8, tuple(range(8))))
        same(self, (fewest_others(full(8)), first_others(full(8))), (7, tuple(range(7))))

    def test_all_some_of_many_webs(self):
        for web in fewer_webs():
            for some in somes_of(web):
                same(self, tells_others(web, some), others_by_hand(web, some), (web, some))

    def test_many_webs(self):
        for web in sample_webs():
            due = first_by_hand(web, others_by_hand)
            same(self, first_others(web), due, web)
            same(self, fewest_others(web), len(due), web)
            same(self, tells_others(web, tuple(range(web[0]))), True, web)


class Refused(unittest.TestCase):
    def test_no_web(self):
        for thing in NO_WEBS:
            for function in OF_A_WEB:
                refuse(self, NoWeb, function, thing)
            for function in OF_SOME + OF_A_THING:
                refuse(self, NoWeb, function, thing, (0,))
            refuse(self, NoWeb, place_by, thing, (0,), (0,))

    def test_no_some(self):
        for web in SOME_WEBS:
            for thing in no_somes(web[0]):
                for function in OF_SOME:
                    refuse(self, NoPlaces, function, web, thing)
                refuse(self, NoPlaces, place_by, web, thing, (0,))

    def test_not_told(self):
        for web, some in ((ONE_PLACE, ()), (row(2), (0, 1)), (row(4), (0, 2)), (full(8), tuple(range(8))),
                          (WEBS_OF_8[0], tuple(range(7))), (row(4), ())):
            for mark in (0,), (), None, [0], "0", True, (0, 1), GREAT:
                refuse(self, NotTold, place_by, web, some, mark)

    def test_no_web_comes_ahead_of_all(self):
        for web, thing in itertools.product(NO_WEBS, (None, [0], (1, 0), (True,), "0", GREATS[0], (8,), ())):
            for function in OF_SOME + OF_A_THING:
                refuse(self, NoWeb, function, web, thing)
            refuse(self, NoWeb, place_by, web, thing, thing)

    def test_no_some_comes_ahead_of_not_told_and_of_the_mark(self):
        for some, mark in itertools.product(NO_SOMES, (None, (), (0,), [0], True, "0", GREAT)):
            # no some tell these apart
            refuse(self, NoPlaces, place_by, WEBS_OF_8[12], some, mark)


if __name__ == "__main__":
    unittest.main()
