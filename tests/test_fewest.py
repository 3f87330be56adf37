"""0.3, 0.4, 3.1 to 3.5 and the interface of fewest.py."""

import itertools
import unittest

from holdplaces import fewest as module
from holdplaces.errors import NoPlaces, NotAll, NoWeb
from holdplaces.fewest import (
    all_fewest, all_once, fewest, first_apart, first_fewest, is_apart, is_once, is_paper, most_apart, paper_for,
    two_parts,
)
from holdplaces.kinds import beside, block, crowned, full, ring, row, star
from things import (
    GREATS, NO_SOMES, NO_WEBS, WEBS_OF_8, check_arguments, check_own_list, fewer_webs, held_by, hold_all, hoods_apart,
    left_out_by_hand, no_somes, reach, refuse, same, sample_webs, small_webs, somes_of,
)

OF_A_WEB = (fewest, first_fewest, all_fewest, most_apart, first_apart, paper_for, all_once, two_parts)
OF_SOME = (is_apart, is_once)
SOME_WEBS = (row(1), row(2), row(4), (4, ()), star(5), beside(ring(3), row(2)), full(8), (8, ()))


def holding_somes(web):
    return sorted(some for some in somes_of(web) if hold_all(web, some))


def apart_somes(web):
    return sorted(some for some in somes_of(web) if hoods_apart(web, some))


def holds_once(web, some):
    held = reach(web)
    return all(sum(place in held[one] for one in some) == 1 for place in range(web[0]))


def has_one_alone(web):
    return any(len(near) == 1 for near in reach(web).values())


class Interface(unittest.TestCase):
    def test_arguments_stand_in_the_order_told(self):
        told = {function.__name__: ["web"] for function in OF_A_WEB}
        told.update({function.__name__: ["web", "some"] for function in OF_SOME})
        told["is_paper"] = ["web", "some", "thing"]
        check_arguments(self, module, told)


class Fewest(unittest.TestCase):
    def test_ordinary_webs(self):
        for web, due in (
            (row(3), [(1,)]), (row(4), [(0, 2), (0, 3), (1, 2), (1, 3)]), (row(6), [(1, 4)]),
            (ring(5), [(0, 2), (0, 3), (1, 3), (1, 4), (2, 4)]), (ring(6), [(0, 3), (1, 4), (2, 5)]),
            (full(3), [(0,), (1,), (2,)]), (star(4), [(0,)]), ((3, ()), [(0, 1, 2)]),
            (block(2, 3), [(0, 5), (1, 4), (2, 3)]), (beside(row(3), (1, ())), [(1, 3)]),
            (beside(star(3), full(2)), [(0, 3), (0, 4)]),
        ):
            same(self, all_fewest(web), due)
            same(self, first_fewest(web), due[0])
            same(self, fewest(web), len(due[0]))

    def test_edges(self):
        same(self, (fewest((1, ())), first_fewest((1, ())), all_fewest((1, ()))), (1, (0,), [(0,)]))
        same(self, (fewest((2, ())), first_fewest((2, ())), all_fewest((2, ()))), (2, (0, 1), [(0, 1)]))
        same(self, (fewest(row(2)), first_fewest(row(2)), all_fewest(row(2))), (1, (0,), [(0,), (1,)]))
        same(self, (fewest((8, ())), first_fewest((8, ()))), (8, tuple(range(8))))
        same(self, (fewest(full(8)), all_fewest(full(8))), (1, [(place,) for place in range(8)]))
        same(self, (fewest(row(8)), first_fewest(row(8))), (3, (0, 3, 6)))

    def test_crowned_webs_need_one_of_each_place_and_its_own(self):
        for web in small_webs(4):
            same(self, fewest(crowned(web)), web[0])
            same(self, first_fewest(crowned(web)), tuple(range(web[0])))

    def test_many_webs(self):
        for web in sample_webs():
            found = holding_somes(web)
            least = min(len(some) for some in found)
            due = [some for some in found if len(some) == least]
            same(self, fewest(web), least, web)
            same(self, first_fewest(web), due[0], web)
            same(self, all_fewest(web), due, web)


class Apart(unittest.TestCase):
    def test_ordinary_some(self):
        same(self, is_apart(row(4), (0, 3)), True)
        same(self, is_apart(row(4), (0, 2)), False)
        same(self, is_apart(row(4), (0, 1)), False)
        same(self, is_apart(ring(4), (0, 2)), False)
        same(self, is_apart((3, ()), (0, 1, 2)), True)
        same(self, is_apart(full(3), (1,)), True)
        same(self, is_apart(full(3), ()), True)
        same(self, is_apart(beside(row(3), row(3)), (1, 4)), True)
        same(self, is_apart(beside(row(3), row(3)), (0, 2, 4)), False)

    def test_edges(self):
        same(self, (is_apart((1, ()), ()), is_apart((1, ()), (0,))), (True, True))
        same(self, (is_apart((8, ()), tuple(range(8))), is_apart(full(8), (0, 7))), (True, False))
        same(self, (most_apart((1, ())), first_apart((1, ()))), (1, (0,)))
        same(self, (most_apart(row(2)), first_apart(row(2))), (1, (0,)))
        same(self, (most_apart((2, ())), first_apart((2, ()))), (2, (0, 1)))
        same(self, (most_apart((8, ())), first_apart((8, ()))), (8, tuple(range(8))))
        same(self, (most_apart(full(8)), first_apart(full(8))), (1, (0,)))
        same(self, (most_apart(row(8)), first_apart(row(8))), (3, (0, 3, 6)))
        same(self, (most_apart(ring(8)), first_apart(ring(8))), (2, (0, 3)))

    def test_all_some_of_many_webs(self):
        for web in fewer_webs():
            for some in somes_of(web):
                same(self, is_apart(web, some), hoods_apart(web, some), (web, some))

    def test_most_of_many_webs(self):
        for web in sample_webs():
            found = apart_somes(web)
            most = max(len(some) for some in found)
            same(self, most_apart(web), most, web)
            same(self, first_apart(web), [some for some in found if len(some) == most][0], web)

    def test_none_that_hold_all_are_fewer_than_any_that_are_apart(self):
        for web in sample_webs():
            self.assertLessEqual(most_apart(web), fewest(web), web)


class Papers(unittest.TestCase):
    def test_ordinary_papers(self):
        same(self, is_paper(row(4), (1, 2), (0, 3)), True)
        same(self, is_paper(row(4), (0, 3), (0, 3)), True)
        same(self, is_paper(row(4), (1, 2), (1, 2)), False)
        same(self, is_paper(row(4), (0, 1, 3), (0, 3)), False)
        same(self, is_paper(row(4), (1, 2), (0,)), False)
        same(self, is_paper(full(3), (0,), (2,)), True)
        same(self, is_paper((1, ()), (0,), (0,)), True)
        same(self, is_paper((1, ()), (0,), ()), False)
        same(self, paper_for(row(4)), (0, 3))
        same(self, paper_for(row(3)), (0,))
        same(self, paper_for(star(5)), (0,))
        same(self, paper_for(ring(6)), (0, 3))
        same(self, paper_for(crowned(ring(3))), (3, 4, 5))
        same(self, paper_for((8, ())), tuple(range(8)))
        same(self, paper_for((1, ())), (0,))

    def test_none_where_there_is_no_paper(self):
        for web in (ring(4), ring(5), ring(7), ring(8), block(2, 2), beside(ring(4), row(3)), beside(row(1), ring(5))):
            same(self, paper_for(web), None, web)

    def test_each_two_some_of_small_webs(self):
        for web in list(small_webs(3)) + list(small_webs(4))[11::4]:
            somes = list(somes_of(web))
            for some, thing in itertools.product(somes, repeat=2):
                free = sorted(set(range(web[0])) - held_by(web, some))
                if free:
                    with self.assertRaises(NotAll) as caught:
                        is_paper(web, some, thing)
                    same(self, vars(caught.exception), {"place": free[0]})
                else:
                    due = hoods_apart(web, thing) and len(thing) == len(some)
                    same(self, is_paper(web, some, thing), due, (web, some, thing))

    def test_of_anything(self):
        for web in SOME_WEBS:
            everything = tuple(range(web[0]))
            for thing in no_somes(web[0]):
                before = repr(thing)
                same(self, is_paper(web, first_fewest(web), thing), False, (web, thing))
                same(self, is_paper(web, everything, thing), False, (web, thing))
                same(self, thing, eval(before))

    def test_papers_as_other_things(self):
        for thing in ([0, 3], (False, 3), (3, 0), "0,3", {0: 0, 3: 3}, ((0, 3),), (0, "3"), (0, 3, 3), (0, 3, None)):
            same(self, is_paper(row(4), (1, 2), thing), False, thing)

    def test_first_papers_of_many_webs(self):
        for web in sample_webs():
            some = first_fewest(web)
            papers = [thing for thing in apart_somes(web) if len(thing) == len(some)]
            told = paper_for(web)
            same(self, told, papers[0] if papers else None, web)
            if told is not None:
                # so the one are fewest, and the other most
                same(self, is_paper(web, some, told), True, web)
                same(self, fewest(web), most_apart(web), web)


class Once(unittest.TestCase):
    def test_ordinary_some(self):
        same(self, is_once(row(4), (0, 3)), True)
        same(self, is_once(row(4), (1, 2)), False)
        same(self, is_once(row(4), (0,)), False)
        same(self, is_once(row(4), ()), False)
        same(self, is_once(full(4), (2,)), True)
        same(self, is_once((2, ()), (0, 1)), True)
        same(self, all_once(row(3)), [(1,)])
        same(self, all_once(row(4)), [(0, 3)])
        same(self, all_once(row(5)), [(0, 3), (1, 4)])
        same(self, all_once(ring(6)), [(0, 3), (1, 4), (2, 5)])
        same(self, all_once(ring(4)), [])
        same(self, all_once(star(4)), [(0,)])
        same(self, all_once(beside(row(2), full(3))), [(0, 2), (0, 3), (0, 4), (1, 2), (1, 3), (1, 4)])

    def test_edges(self):
        same(self, (is_once((1, ()), ()), is_once((1, ()), (0,)), all_once((1, ()))), (False, True, [(0,)]))
        same(self, all_once((2, ())), [(0, 1)])
        same(self, all_once(row(2)), [(0,), (1,)])
        same(self, all_once((8, ())), [tuple(range(8))])
        same(self, all_once(full(8)), [(place,) for place in range(8)])
        same(self, all_once(row(8)), [(0, 3, 6), (1, 4, 7)])

    def test_all_some_of_many_webs(self):
        for web in fewer_webs():
            for some in somes_of(web):
                same(self, is_once(web, some), holds_once(web, some), (web, some))

    def test_all_of_many_webs(self):
        for web in sample_webs():
            due = sorted(some for some in somes_of(web) if holds_once(web, some))
            same(self, all_once(web), due, web)
            for some in due:
                # such some are a paper of themselves
                same(self, is_paper(web, some, some), True, (web, some))


class TwoParts(unittest.TestCase):
    def test_ordinary_webs(self):
        same(self, two_parts(row(2)), ((0,), (1,)))
        same(self, two_parts(row(4)), ((0, 2), (1, 3)))
        same(self, two_parts(star(4)), ((0,), (1, 2, 3)))
        same(self, two_parts(row(8)), ((0, 3, 6), (1, 2, 4, 5, 7)))
        same(self, two_parts(full(8)), ((0,), (1, 2, 3, 4, 5, 6, 7)))
        same(self, two_parts(beside(row(2), ring(3))), ((0, 2), (1, 3, 4)))

    def test_none_where_one_is_alone(self):
        for web in ((1, ()), (2, ()), (3, ((0, 1),)), (3, ((1, 2),)), (3, ((0, 2),)), (8, ()), beside(full(7), (1, ())),
                    beside((1, ()), ring(5))):
            same(self, two_parts(web), None, web)

    def test_many_webs(self):
        for web in sample_webs():
            told = two_parts(web)
            places = tuple(range(web[0]))
            if has_one_alone(web):
                same(self, told, None, web)
            else:
                kept = left_out_by_hand(web, places)
                same(self, told, (kept, tuple(sorted(set(places) - set(kept)))), web)
                self.assertTrue(hold_all(web, told[0]) and hold_all(web, told[1]), web)
                self.assertLessEqual(2 * fewest(web), web[0], web)
            greatest = max(len(near) for near in reach(web).values())
            self.assertGreaterEqual(greatest * fewest(web), web[0], web)


class Lists(unittest.TestCase):
    def test_the_lists_told_are_the_askers_own(self):
        for web in SOME_WEBS + (ring(4), ring(6)):
            check_own_list(self, all_fewest, web)
            check_own_list(self, all_once, web)


class Refused(unittest.TestCase):
    def test_no_web(self):
        for thing in NO_WEBS:
            for function in OF_A_WEB:
                refuse(self, NoWeb, function, thing)
            for function in OF_SOME:
                refuse(self, NoWeb, function, thing, ())
            refuse(self, NoWeb, is_paper, thing, (0,), (0,))

    def test_no_some(self):
        for web in SOME_WEBS:
            for thing in no_somes(web[0]):
                for function in OF_SOME:
                    refuse(self, NoPlaces, function, web, thing)
                refuse(self, NoPlaces, is_paper, web, thing, (0,))

    def test_no_web_comes_ahead_of_all(self):
        for web, some in itertools.product(NO_WEBS, (None, [0], (1, 0), (True,), "0", GREATS[0], (8,))):
            for function in OF_SOME:
                refuse(self, NoWeb, function, web, some)
            refuse(self, NoWeb, is_paper, web, some, None)
            refuse(self, NoWeb, is_paper, web, some, (0,))

    def test_no_some_comes_ahead_of_not_all_and_of_the_thing(self):
        for some in NO_SOMES:
            for thing in (None, (), (0,), [0], True, "0", GREATS[0]):
                # no other some than all places hold all of a web without a tie
                refuse(self, NoPlaces, is_paper, WEBS_OF_8[0], some, thing)

    def test_not_all_comes_ahead_of_the_thing(self):
        for thing in NO_SOMES + ((), (0,), (0, 3)):
            self.assertEqual(refuse(self, NotAll, is_paper, row(4), (), thing).place, 0)
            self.assertEqual(refuse(self, NotAll, is_paper, row(4), (0,), thing).place, 2)
            self.assertEqual(refuse(self, NotAll, is_paper, row(4), (0, 1), thing).place, 3)
            self.assertEqual(refuse(self, NotAll, is_paper, (8, ()), tuple(range(7)), thing).place, 7)


if __name__ == "__main__":
    unittest.main()
