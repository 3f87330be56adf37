"""0.2, 0.3, 0.4, 2.1, 2.2 and the interface of holding.py."""

import itertools
import unittest

from holdplaces import holding
from holdplaces.errors import NoPlace, NoPlaces, NoWeb
from holdplaces.holding import holders, holds_all, own, spare, unheld
from things import (
    GREATS, NO_SOMES, NO_WEBS, WEBS_OF_8, check_arguments, fewer_webs, held_by, no_places, no_somes, reach, refuse,
    same, somes_of,
)

ONE_PLACE = (1, ())
NO_TIE = (4, ())
ROW = (4, ((0, 1), (1, 2), (2, 3)))
FULL = (3, ((0, 1), (0, 2), (1, 2)))
TWO_PIECES = (5, ((0, 3), (1, 4)))
ROW_OF_8 = WEBS_OF_8[3]

# of what is handed in these take the web and some
OF_SOME = (unheld, holds_all, spare)
# and these a place besides
OF_A_PLACE = (holders, own)


class Interface(unittest.TestCase):
    def test_arguments_stand_in_the_order_told(self):
        check_arguments(self, holding, {
            "holders": ["web", "some", "place"], "unheld": ["web", "some"], "holds_all": ["web", "some"],
            "own": ["web", "some", "place"], "spare": ["web", "some"],
        })


class Holders(unittest.TestCase):
    def test_ordinary_holders(self):
        same(self, holders(ROW, (0, 2), 1), (0, 2))
        same(self, holders(ROW, (0, 2), 0), (0,))
        same(self, holders(ROW, (0, 1), 3), ())
        same(self, holders(ROW, (0, 1, 2, 3), 2), (1, 2, 3))
        same(self, holders(TWO_PIECES, (0, 1), 3), (0,))
        same(self, holders(TWO_PIECES, (0, 1), 4), (1,))
        same(self, holders(TWO_PIECES, (0, 1), 2), ())
        same(self, holders(WEBS_OF_8[12], (0, 3, 7), 5), (0, 3, 7))

    def test_edges(self):
        same(self, holders(ONE_PLACE, (), 0), ())
        same(self, holders(ONE_PLACE, (0,), 0), (0,))
        same(self, holders(ROW_OF_8, (), 7), ())
        same(self, holders(ROW_OF_8, tuple(range(8)), 7), (6, 7))
        same(self, holders(ROW_OF_8, tuple(range(8)), 0), (0, 1))

    def test_all_some_of_many_webs(self):
        for web in fewer_webs():
            held = reach(web)
            for some in somes_of(web):
                for place in range(web[0]):
                    due = tuple(one for one in some if place in held[one])
                    same(self, holders(web, some, place), due, (web, some, place))


class Unheld(unittest.TestCase):
    def test_ordinary_some(self):
        same(self, unheld(ROW, (0,)), (2, 3))
        same(self, unheld(ROW, (0, 3)), ())
        same(self, unheld(ROW, (1,)), (3,))
        same(self, unheld(NO_TIE, (1, 3)), (0, 2))
        same(self, unheld(FULL, (2,)), ())
        same(self, unheld(TWO_PIECES, (3, 4)), (2,))
        same(self, holds_all(ROW, (0, 3)), True)
        same(self, holds_all(ROW, (0, 1)), False)
        same(self, holds_all(TWO_PIECES, (2, 3, 4)), True)
        same(self, holds_all(TWO_PIECES, (0, 1, 3, 4)), False)

    def test_edges(self):
        same(self, unheld(ONE_PLACE, ()), (0,))
        same(self, unheld(ONE_PLACE, (0,)), ())
        same(self, holds_all(ONE_PLACE, ()), False)
        same(self, holds_all(ONE_PLACE, (0,)), True)
        same(self, unheld(ROW_OF_8, ()), tuple(range(8)))
        same(self, unheld(ROW_OF_8, tuple(range(8))), ())
        same(self, unheld(WEBS_OF_8[0], tuple(range(7))), (7,))

    def test_all_some_of_many_webs(self):
        for web in fewer_webs():
            for some in somes_of(web):
                due = tuple(sorted(set(range(web[0])) - held_by(web, some)))
                same(self, unheld(web, some), due, (web, some))
                same(self, holds_all(web, some), len(due) == 0, (web, some))


class Own(unittest.TestCase):
    def test_ordinary_some(self):
        same(self, own(ROW, (0, 2), 0), (0,))
        same(self, own(ROW, (0, 2), 2), (2, 3))
        same(self, own(ROW, (1,), 1), (0, 1, 2))
        same(self, own(ROW, (0, 1, 2), 1), ())
        same(self, own(FULL, (0, 1), 0), ())
        same(self, own(NO_TIE, (0, 3), 3), (3,))
        same(self, own(TWO_PIECES, (0, 1, 4), 0), (0, 3))
        same(self, spare(ROW, (0, 1, 2)), (0, 1))
        same(self, spare(ROW, (0, 2)), ())
        same(self, spare(FULL, (0, 1, 2)), (0, 1, 2))
        same(self, spare(FULL, (1,)), ())
        same(self, spare(TWO_PIECES, (0, 1, 4)), (1, 4))
        # some that don't hold all may have spare ones, too
        same(self, spare(TWO_PIECES, (0, 3)), (0, 3))

    def test_edges(self):
        same(self, own(ONE_PLACE, (0,), 0), (0,))
        same(self, spare(ONE_PLACE, ()), ())
        same(self, spare(ONE_PLACE, (0,)), ())
        same(self, spare(ROW_OF_8, ()), ())
        same(self, spare(ROW_OF_8, tuple(range(8))), tuple(range(8)))
        same(self, spare(WEBS_OF_8[0], tuple(range(8))), ())
        same(self, own(ROW_OF_8, (0, 3, 6), 6), (5, 6, 7))

    def test_all_some_of_many_webs(self):
        for web in fewer_webs():
            held = reach(web)
            for some in somes_of(web):
                idle = []
                for place in some:
                    others = held_by(web, [one for one in some if one != place])
                    due = tuple(sorted(held[place] - others))
                    same(self, own(web, some, place), due, (web, some, place))
                    # one is spare where, it left out, all is held that was held
                    if others == held_by(web, some):
                        idle.append(place)
                same(self, spare(web, some), tuple(idle), (web, some))

    def test_a_place_that_is_none_of_some(self):
        for web in (ONE_PLACE, ROW, FULL, TWO_PIECES, ROW_OF_8):
            for some in somes_of(web):
                for place in range(web[0]):
                    if place not in some:
                        refuse(self, NoPlace, own, web, some, place)


class Refused(unittest.TestCase):
    def test_no_web(self):
        for thing in NO_WEBS:
            for function in OF_SOME:
                refuse(self, NoWeb, function, thing, ())
            for function in OF_A_PLACE:
                refuse(self, NoWeb, function, thing, (0,), 0)

    def test_no_some(self):
        for web in (ONE_PLACE, ROW, TWO_PIECES, ROW_OF_8):
            for thing in no_somes(web[0]):
                for function in OF_SOME:
                    refuse(self, NoPlaces, function, web, thing)
                for function in OF_A_PLACE:
                    refuse(self, NoPlaces, function, web, thing, 0)

    def test_each_tuple_of_up_to_three_numbers(self):
        for size in range(4):
            for thing in itertools.product(range(-1, 6), repeat=size):
                if thing in list(somes_of(ROW)):
                    self.assertIs(type(unheld(ROW, thing)), tuple)
                else:
                    refuse(self, NoPlaces, unheld, ROW, thing)

    def test_no_place(self):
        for web in (ONE_PLACE, ROW, TWO_PIECES, ROW_OF_8):
            everything = tuple(range(web[0]))
            for thing in no_places(web[0]):
                for function in OF_A_PLACE:
                    refuse(self, NoPlace, function, web, everything, thing)
                    refuse(self, NoPlace, function, web, (), thing)
                    refuse(self, NoPlace, function, web, (0,), thing)

    def test_no_web_comes_ahead_of_all(self):
        for web, some in itertools.product(NO_WEBS, (None, [0], (1, 0), (True,), "0", GREATS[0], (8,))):
            for function in OF_SOME:
                refuse(self, NoWeb, function, web, some)
            for function in OF_A_PLACE:
                refuse(self, NoWeb, function, web, some, 0)
                refuse(self, NoWeb, function, web, some, None)
        for web, place in itertools.product(NO_WEBS, (None, True, -1, 8, "0", GREATS[1])):
            for function in OF_A_PLACE:
                refuse(self, NoWeb, function, web, (), place)

    def test_no_some_comes_ahead_of_no_place(self):
        for some, place in itertools.product(NO_SOMES, (None, True, -1, 4, "0", [0], (), {}, GREATS[0])):
            for function in OF_A_PLACE:
                refuse(self, NoPlaces, function, ROW, some, place)
        # 3 is a place, but none of what is handed in for some
        for some in NO_SOMES:
            refuse(self, NoPlaces, own, ROW, some, 3)


if __name__ == "__main__":
    unittest.main()
