"""0.2, 0.3, 0.4, 2.3, 2.4 and the interface of lean.py."""

import itertools
import unittest

from holdplaces import lean
from holdplaces.errors import NoPlaces, NotAll, NotUntied, NoWeb
from holdplaces.lean import all_lean, grown, is_lean, leaned, untied_holders
from things import (
    GREATS, NO_SOMES, NO_WEBS, WEBS_OF_8, apart_by_ties, check_arguments, check_own_list, fewer_webs, held_by, hold_all,
    left_out_by_hand, less, no_somes, refuse, same, sample_webs, somes_of,
)

ONE_PLACE = (1, ())
NO_TIE = (3, ())
ROW = (4, ((0, 1), (1, 2), (2, 3)))
FULL = (3, ((0, 1), (0, 2), (1, 2)))
STAR = (4, ((0, 1), (0, 2), (0, 3)))
TWO_PIECES = (5, ((0, 3), (1, 4)))
EMPTY_OF_8 = WEBS_OF_8[0]
ROW_OF_8 = WEBS_OF_8[3]
FULL_OF_8 = WEBS_OF_8[12]


def least(web, some):
    """Whether some hold all, and no longer once any one of them is left out."""
    return hold_all(web, some) and not any(hold_all(web, less(some, place)) for place in some)


def put_by_hand(web, some):
    """Going by the places once is the same as going for the least one again and again."""
    for place in range(web[0]):
        if place not in some and apart_by_ties(web, tuple(sorted(some + (place,)))):
            some = tuple(sorted(some + (place,)))
    return some


class Interface(unittest.TestCase):
    def test_arguments_stand_in_the_order_told(self):
        check_arguments(self, lean, {
            "leaned": ["web", "some"], "grown": ["web", "some"], "is_lean": ["web", "thing"], "all_lean": ["web"],
            "untied_holders": ["web"],
        })


class Leaned(unittest.TestCase):
    def test_ordinary_some(self):
        same(self, leaned(ROW, (0, 1, 2, 3)), (0, 2))
        same(self, leaned(ROW, (0, 1, 3)), (0, 3))
        same(self, leaned(ROW, (1, 2)), (1, 2))
        same(self, leaned(STAR, (0, 1, 2, 3)), (0,))
        same(self, leaned(STAR, (1, 2, 3)), (1, 2, 3))
        same(self, leaned(FULL, (1, 2)), (1,))
        same(self, leaned(TWO_PIECES, (0, 1, 2, 3, 4)), (0, 1, 2))
        same(self, leaned(TWO_PIECES, (1, 2, 3, 4)), (1, 2, 3))

    def test_edges(self):
        same(self, leaned(ONE_PLACE, (0,)), (0,))
        same(self, leaned(EMPTY_OF_8, tuple(range(8))), tuple(range(8)))
        # one after the other of the last ones is left out
        same(self, leaned(FULL_OF_8, tuple(range(8))), (0,))
        same(self, leaned(ROW_OF_8, tuple(range(8))), (0, 3, 6))

    def test_all_some_of_many_webs(self):
        for web in fewer_webs():
            for some in somes_of(web):
                if hold_all(web, some):
                    told = leaned(web, some)
                    same(self, told, left_out_by_hand(web, some), (web, some))
                    self.assertTrue(least(web, told), (web, some))

    def test_the_first_unheld_place_of_some_that_do_not_hold_all(self):
        for web in fewer_webs():
            for some in somes_of(web):
                free = sorted(set(range(web[0])) - held_by(web, some))
                if free:
                    with self.assertRaises(NotAll) as caught:
                        leaned(web, some)
                    same(self, vars(caught.exception), {"place": free[0]}, (web, some))

    def test_edges_of_not_all(self):
        self.assertEqual(refuse(self, NotAll, leaned, ONE_PLACE, ()).place, 0)
        self.assertEqual(refuse(self, NotAll, leaned, ROW, (0,)).place, 2)
        self.assertEqual(refuse(self, NotAll, leaned, ROW, (0, 1)).place, 3)
        self.assertEqual(refuse(self, NotAll, leaned, EMPTY_OF_8, tuple(range(7))).place, 7)
        self.assertEqual(refuse(self, NotAll, leaned, FULL_OF_8, ()).place, 0)


class IsLean(unittest.TestCase):
    def test_ordinary_some(self):
        same(self, is_lean(ROW, (0, 2)), True)
        same(self, is_lean(ROW, (1, 2)), True)
        same(self, is_lean(ROW, (0, 1, 3)), False)
        same(self, is_lean(ROW, (0, 1)), False)
        same(self, is_lean(STAR, (1, 2, 3)), True)
        same(self, is_lean(STAR, (0,)), True)
        same(self, is_lean(STAR, (0, 1)), False)
        same(self, is_lean(ONE_PLACE, (0,)), True)
        same(self, is_lean(ONE_PLACE, ()), False)

    def test_all_some_of_many_webs(self):
        for web in fewer_webs():
            for some in somes_of(web):
                same(self, is_lean(web, some), least(web, some), (web, some))

    def test_of_anything(self):
        for web in (ONE_PLACE, NO_TIE, ROW, STAR, TWO_PIECES, EMPTY_OF_8, ROW_OF_8, FULL_OF_8):
            for thing in no_somes(web[0]):
                before = repr(thing)
                same(self, is_lean(web, thing), False, (web, thing))
                same(self, thing, eval(before))

    def test_lean_some_as_other_things(self):
        for thing in ([0, 2], (False, 2), (0, 2, 2), (2, 0), "0,2", {0: 0, 2: 2}, ((0, 2),), (0, "2"), (0, (2,))):
            same(self, is_lean(ROW, thing), False, thing)
        same(self, is_lean(STAR, (False,)), False)
        same(self, is_lean(FULL, (True,)), False)

    def test_all_lean(self):
        same(self, all_lean(ONE_PLACE), [(0,)])
        same(self, all_lean(NO_TIE), [(0, 1, 2)])
        same(self, all_lean(FULL), [(0,), (1,), (2,)])
        same(self, all_lean(STAR), [(0,), (1, 2, 3)])
        same(self, all_lean(ROW), [(0, 2), (0, 3), (1, 2), (1, 3)])
        same(self, all_lean(EMPTY_OF_8), [tuple(range(8))])
        same(self, all_lean(FULL_OF_8), [(place,) for place in range(8)])

    def test_all_lean_of_many_webs(self):
        for web in sample_webs():
            same(self, all_lean(web), sorted(some for some in somes_of(web) if least(web, some)), web)

    def test_the_list_told_is_the_askers_own(self):
        for web in (ONE_PLACE, STAR, TWO_PIECES, ROW_OF_8):
            check_own_list(self, all_lean, web)
            same(self, is_lean(web, all_lean(web)[-1]), True)


class Grown(unittest.TestCase):
    def test_ordinary_some(self):
        same(self, grown(ROW, ()), (0, 2))
        same(self, grown(ROW, (1,)), (1, 3))
        same(self, grown(ROW, (3,)), (0, 3))
        same(self, grown(ROW, (0, 2)), (0, 2))
        same(self, grown(STAR, ()), (0,))
        same(self, grown(STAR, (2,)), (1, 2, 3))
        same(self, grown(TWO_PIECES, (4,)), (0, 2, 4))
        same(self, grown(FULL, (1,)), (1,))

    def test_edges(self):
        same(self, grown(ONE_PLACE, ()), (0,))
        same(self, grown(ONE_PLACE, (0,)), (0,))
        same(self, grown(EMPTY_OF_8, ()), tuple(range(8)))
        same(self, grown(EMPTY_OF_8, (3, 7)), tuple(range(8)))
        same(self, grown(ROW_OF_8, ()), (0, 2, 4, 6))
        same(self, grown(ROW_OF_8, (7,)), (0, 2, 4, 7))
        same(self, grown(FULL_OF_8, (7,)), (7,))

    def test_all_some_of_many_webs(self):
        for web in fewer_webs():
            for some in somes_of(web):
                if apart_by_ties(web, some):
                    told = grown(web, some)
                    same(self, told, put_by_hand(web, some), (web, some))
                    # these hold all, and are lean
                    self.assertTrue(least(web, told), (web, some))
                else:
                    with self.assertRaises(NotUntied):
                        grown(web, some)

    def test_some_with_a_tie(self):
        refuse(self, NotUntied, grown, ROW, (0, 1))
        refuse(self, NotUntied, grown, ROW, (0, 2, 3))
        refuse(self, NotUntied, grown, FULL_OF_8, (0, 7))
        refuse(self, NotUntied, grown, ROW_OF_8, tuple(range(8)))

    def test_untied_holders(self):
        same(self, untied_holders(ONE_PLACE), [(0,)])
        same(self, untied_holders(NO_TIE), [(0, 1, 2)])
        same(self, untied_holders(FULL), [(0,), (1,), (2,)])
        same(self, untied_holders(STAR), [(0,), (1, 2, 3)])
        same(self, untied_holders(ROW), [(0, 2), (0, 3), (1, 3)])
        same(self, untied_holders(TWO_PIECES), [(0, 1, 2), (0, 2, 4), (1, 2, 3), (2, 3, 4)])
        same(self, untied_holders(FULL_OF_8), [(place,) for place in range(8)])

    def test_untied_holders_of_many_webs(self):
        for web in sample_webs():
            # untied some hold all just where no place can be put to them that leaves them untied
            due = [some for some in somes_of(web) if apart_by_ties(web, some) and not any(
                apart_by_ties(web, tuple(sorted(some + (place,)))) for place in set(range(web[0])) - set(some))]
            same(self, untied_holders(web), sorted(due), web)

    def test_the_list_told_is_the_askers_own(self):
        for web in (ONE_PLACE, STAR, TWO_PIECES, ROW_OF_8):
            check_own_list(self, untied_holders, web)


class Refused(unittest.TestCase):
    def test_no_web(self):
        for thing in NO_WEBS:
            for function in (leaned, grown, is_lean):
                refuse(self, NoWeb, function, thing, (0,))
            for function in (all_lean, untied_holders):
                refuse(self, NoWeb, function, thing)

    def test_no_some(self):
        for web in (ONE_PLACE, ROW, TWO_PIECES, FULL_OF_8):
            for thing in no_somes(web[0]):
                refuse(self, NoPlaces, leaned, web, thing)
                refuse(self, NoPlaces, grown, web, thing)

    def test_no_web_comes_ahead_of_all(self):
        for web, some in itertools.product(NO_WEBS, (None, [0], (1, 0), (True,), "0", GREATS[0], (8,), ())):
            for function in (leaned, grown, is_lean):
                refuse(self, NoWeb, function, web, some)

    def test_no_some_comes_ahead_of_not_all_and_not_untied(self):
        for thing in NO_SOMES:
            # what hold nothing, or are tied, if they were looked at otherwise
            refuse(self, NoPlaces, leaned, EMPTY_OF_8, thing)
            refuse(self, NoPlaces, grown, FULL_OF_8, thing)
        for thing in ([0, 1], (1, 0), (0, 1, 1), (0, True), (0, 1, 9), (0, 1, None)):
            refuse(self, NoPlaces, grown, FULL_OF_8, thing)
            refuse(self, NoPlaces, leaned, EMPTY_OF_8, thing)


if __name__ == "__main__":
    unittest.main()
