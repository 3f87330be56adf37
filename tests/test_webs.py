"""0.1, 0.3, 0.4, 1.1, 1.2 and the interface of webs.py."""

import itertools
import unittest

from holdplaces import webs
from holdplaces.errors import NoPlace, NoWeb
from holdplaces.webs import far, hood, hoods, is_tree, is_web, pieces
from things import (
    GREATS, NO_WEBS, NO_WHOLES, WEBS_OF_8, check_arguments, check_own_list, no_places, refuse, sample_webs, small_webs,
)

ROW = (4, ((0, 1), (1, 2), (2, 3)))
TWO_PIECES = (5, ((0, 3), (1, 4)))


def ways_between(web):
    """By joining ways at each place in turn, so otherwise than the program does it."""
    many, ties = web
    ways = {(a, a): 0 for a in range(many)}
    for a, b in ties:
        ways[a, b] = ways[b, a] = 1
    for by, a, b in itertools.product(range(many), repeat=3):
        if (a, by) in ways and (by, b) in ways:
            ways[a, b] = min(ways.get((a, b), many), ways[a, by] + ways[by, b])
    return ways


class Interface(unittest.TestCase):
    def test_arguments_stand_in_the_order_told(self):
        check_arguments(self, webs, {
            "is_web": ["thing"], "is_tree": ["web"], "hood": ["web", "place"], "hoods": ["web"],
            "far": ["web", "one", "other"], "pieces": ["web"],
        })


class IsWeb(unittest.TestCase):
    def test_all_small_webs_and_some_of_8_places_are_webs(self):
        for web in sample_webs():
            self.assertIs(is_web(web), True, web)

    def test_each_number_of_places_from_1_to_8(self):
        for many in range(-3, 20):
            self.assertIs(is_web((many, ())), 1 <= many <= 8, many)

    def test_no_webs(self):
        for thing in NO_WEBS:
            with self.subTest(thing=thing):
                before = repr(thing)
                self.assertIs(is_web(thing), False)
                self.assertEqual(repr(thing), before)

    def test_each_two_numbers_as_a_tie(self):
        for many in range(1, 9):
            for a, b in itertools.product(range(-2, 11), repeat=2):
                self.assertIs(is_web((many, ((a, b),))), 0 <= a < b < many, (many, a, b))

    def test_each_order_of_ties(self):
        pairs = list(itertools.combinations(range(4), 2))
        for size in range(4):
            for ties in itertools.product(pairs, repeat=size):
                self.assertIs(is_web((4, ties)), list(ties) == sorted(set(ties)), ties)

    def test_a_web_with_one_thing_in_it_put_wrong(self):
        many, ties = WEBS_OF_8[3]
        for wrong in NO_WHOLES + GREATS:
            self.assertIs(is_web((wrong, ties)), False, wrong)
            for at, (a, b) in enumerate(ties):
                for tie in ((wrong, b), (a, wrong), (a, b, wrong), [a, b], (a,), (b, a)):
                    self.assertIs(is_web((many, ties[:at] + (tie,) + ties[at + 1:])), False, tie)

    def test_a_tuple_where_any_thing_stands(self):
        for thing in NO_WHOLES + GREATS:
            if thing != (0, 1):
                self.assertIs(is_web((3, (thing,))), False, thing)
            if thing != ():
                self.assertIs(is_web((3, thing)), False, thing)


class Hoods(unittest.TestCase):
    def test_ordinary_hoods(self):
        self.assertEqual(hood(ROW, 0), (0, 1))
        self.assertEqual(hood(ROW, 2), (1, 2, 3))
        self.assertEqual(hoods(ROW), ((0, 1), (0, 1, 2), (1, 2, 3), (2, 3)))
        self.assertEqual(hoods(TWO_PIECES), ((0, 3), (1, 4), (2,), (0, 3), (1, 4)))
        self.assertEqual(hood((1, ()), 0), (0,))
        self.assertEqual(hoods((1, ())), ((0,),))
        self.assertEqual(hood(WEBS_OF_8[12], 7), (0, 1, 2, 3, 4, 5, 6, 7))

    def test_hoods_of_many_webs(self):
        for web in sample_webs():
            many, ties = web
            due = []
            for place in range(many):
                others = {a + b - place for a, b in ties if place in (a, b)}
                due.append(tuple(sorted(others | {place})))
                self.assertEqual(hood(web, place), due[-1], web)
            self.assertEqual(hoods(web), tuple(due), web)

    def test_refused(self):
        for thing in NO_WEBS:
            refuse(self, NoWeb, hood, thing, 0)
            refuse(self, NoWeb, hoods, thing)
        for web in (ROW, TWO_PIECES, (1, ())) + WEBS_OF_8[:1]:
            for thing in no_places(web[0]):
                refuse(self, NoPlace, hood, web, thing)

    def test_no_web_comes_ahead_of_no_place(self):
        for web, place in itertools.product(NO_WEBS, (None, True, -1, 99, "0", [0], GREATS[0])):
            refuse(self, NoWeb, hood, web, place)


class Far(unittest.TestCase):
    def test_ordinary_ways(self):
        self.assertEqual(far(ROW, 0, 3), 3)
        self.assertEqual(far(ROW, 3, 1), 2)
        self.assertEqual(far(ROW, 2, 2), 0)
        self.assertIs(far(TWO_PIECES, 0, 1), None)
        self.assertIs(far(TWO_PIECES, 2, 4), None)
        self.assertEqual(far(TWO_PIECES, 2, 2), 0)
        self.assertEqual(far((1, ()), 0, 0), 0)
        self.assertEqual(far(WEBS_OF_8[3], 0, 7), 7)
        self.assertEqual(far(WEBS_OF_8[4], 0, 5), 3)

    def test_ways_of_many_webs(self):
        for web in sample_webs():
            ways = ways_between(web)
            for one, other in itertools.product(range(web[0]), repeat=2):
                self.assertEqual(far(web, one, other), ways.get((one, other)), (web, one, other))

    def test_refused(self):
        for thing in NO_WEBS:
            refuse(self, NoWeb, far, thing, 0, 0)
        for web in (ROW, TWO_PIECES, (1, ())):
            for thing in no_places(web[0]):
                refuse(self, NoPlace, far, web, thing, 0)
                refuse(self, NoPlace, far, web, 0, thing)
                refuse(self, NoPlace, far, web, thing, thing)

    def test_no_web_comes_ahead_of_no_place(self):
        for web in NO_WEBS:
            refuse(self, NoWeb, far, web, None, 0)
            refuse(self, NoWeb, far, web, 0, "1")
            refuse(self, NoWeb, far, web, True, -1)


class Pieces(unittest.TestCase):
    def test_ordinary_pieces(self):
        self.assertEqual(pieces(ROW), [(0, 1, 2, 3)])
        self.assertEqual(pieces(TWO_PIECES), [(0, 3), (1, 4), (2,)])
        self.assertEqual(pieces((1, ())), [(0,)])
        self.assertEqual(pieces(WEBS_OF_8[0]), [(0,), (1,), (2,), (3,), (4,), (5,), (6,), (7,)])
        self.assertEqual(pieces(WEBS_OF_8[8]), [(0, 2, 4), (1, 3, 5), (6, 7)])

    def test_pieces_of_many_webs(self):
        for web in sample_webs():
            ways = ways_between(web)
            due = {tuple(b for b in range(web[0]) if (a, b) in ways) for a in range(web[0])}
            told = pieces(web)
            self.assertIs(type(told), list)
            self.assertEqual(told, sorted(due), web)

    def test_the_list_told_is_the_askers_own(self):
        check_own_list(self, pieces, TWO_PIECES)
        self.assertEqual(pieces(TWO_PIECES), [(0, 3), (1, 4), (2,)])
        self.assertEqual(TWO_PIECES, (5, ((0, 3), (1, 4))))
        self.assertIs(is_tree(TWO_PIECES), False)

    def test_refused(self):
        for thing in NO_WEBS:
            refuse(self, NoWeb, pieces, thing)


class IsTree(unittest.TestCase):
    def test_ordinary_trees_and_others(self):
        self.assertIs(is_tree(ROW), True)
        self.assertIs(is_tree((1, ())), True)
        self.assertIs(is_tree((2, ())), False)
        self.assertIs(is_tree((3, ((0, 1), (0, 2), (1, 2)))), False)
        # as many ties as a tree of 4 places has, but two pieces
        self.assertIs(is_tree((4, ((0, 1), (0, 2), (1, 2)))), False)
        self.assertIs(is_tree(WEBS_OF_8[6]), True)
        self.assertIs(is_tree(WEBS_OF_8[10]), False)
        self.assertIs(is_tree(WEBS_OF_8[12]), False)

    def test_how_many_trees_there_are(self):
        # of n places there are n to the power of n less 2 trees
        for many, due in ((1, 1), (2, 1), (3, 3), (4, 16), (5, 125)):
            found = [web for web in small_webs(5) if web[0] == many and is_tree(web)]
            self.assertEqual(len(found), due)

    def test_trees_are_webs_with_just_one_way_between_each_two_places(self):
        for web in sample_webs():
            many, ties = web
            whole = len(ways_between(web)) == many * many
            cut = [(many, ties[:at] + ties[at + 1:]) for at in range(len(ties))]
            due = whole and all(len(ways_between(less)) < many * many for less in cut)
            self.assertIs(is_tree(web), due, web)

    def test_refused(self):
        for thing in NO_WEBS:
            refuse(self, NoWeb, is_tree, thing)


if __name__ == "__main__":
    unittest.main()
