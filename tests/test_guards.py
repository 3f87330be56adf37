"""0.2, 0.3, 0.4, 8.1 to 8.4 and the interface of guards.py."""

import itertools
import math
import unittest

from holdplaces import guards
from holdplaces.errors import NoNumber, NoPlace, NoPlaces, NoWeb
from holdplaces.guards import (
    best_move, days, family_of, fewest_guards, first_guards, is_lasting, moves, worst_asking,
)
from holdplaces.kinds import beside, block, full, ring, row, star
from things import (
    GREAT, GREATS, NO_SOMES, NO_WEBS, NO_WHOLES, WEBS_BETWEEN, WEBS_OF_8, check_arguments, check_own_list, deep,
    fewer_webs, hold_all, no_places, no_somes, reach, refuse, same, sample_webs, small_webs, somes_of, webs_of,
)

ONE_PLACE = (1, ())
SOME_WEBS = (ONE_PLACE, row(2), row(4), (4, ()), star(5), beside(ring(4), row(1)), full(8), (8, ()), ring(8))
OF_A_WEB = (fewest_guards, first_guards)
OF_SOME = (days, worst_asking)
OF_AN_ASKING = (moves, best_move)


def sizes(web, number):
    return list(itertools.combinations(range(web[0]), number))


def bare(web, some):
    return [place for place in range(web[0]) if place not in some]


def moves_by_hand(web, some, place):
    near = reach(web)[place] - {place}
    return sorted(tuple(sorted(set(some) - {guard} | {place})) for guard in near & set(some))


def lasts_by_hand(web, family):
    """Of a list of somes: whether it rises, and each asking leads back into it."""
    rising = all(one < other for one, other in zip(family, family[1:]))
    return len(family) > 0 and rising and all(
        set(moves_by_hand(web, some, place)) & set(family) for some in family for place in bare(web, some))


class Reckoner:
    """The days of the somes of a web, told by going through all askings and moves of up to so many days."""

    def __init__(self, web):
        self.web = web
        self.known = {}
        self.ways = {}
        self.told = {}

    def answers(self, some):
        if some not in self.ways:
            self.ways[some] = {place: moves_by_hand(self.web, some, place) for place in bare(self.web, some)}
        return self.ways[some]

    def survive(self, some, many):
        """Whether so many askings, whatever they are, can be answered."""
        key = (some, many)
        if many == 0:
            return True
        if key not in self.known:
            self.known[key] = all(
                any(self.survive(move, many - 1) for move in found) for found in self.answers(some).values())
        return self.known[key]

    def days(self, some):
        if some not in self.told:
            # where more askings are answered than there are somes of this size, it never ends
            most = math.comb(self.web[0], len(some))
            failing = (many for many in range(most + 1) if not self.survive(some, many + 1))
            self.told[some] = next(failing, math.inf)
        return self.told[some]

    def left(self, some, place):
        return max([self.days(move) for move in self.answers(some)[place]], default=-1)


class Interface(unittest.TestCase):
    def test_arguments_stand_in_the_order_told(self):
        told = {function.__name__: ["web"] for function in OF_A_WEB}
        told.update({function.__name__: ["web", "some"] for function in OF_SOME})
        told.update({function.__name__: ["web", "some", "place"] for function in OF_AN_ASKING})
        told.update({"is_lasting": ["web", "thing"], "family_of": ["web", "number"]})
        check_arguments(self, guards, told)


class Moves(unittest.TestCase):
    def test_ordinary_some(self):
        same(self, moves(row(4), (0, 2), 1), [(0, 1), (1, 2)])
        same(self, moves(row(4), (0, 2), 3), [(0, 3)])
        same(self, moves(row(4), (0, 1), 3), [])
        same(self, moves(full(4), (1, 2), 0), [(0, 1), (0, 2)])
        same(self, moves(full(4), (0, 1, 3), 2), [(0, 1, 2), (0, 2, 3), (1, 2, 3)])
        same(self, moves(star(4), (0, 1), 2), [(1, 2)])
        same(self, moves(beside(row(2), row(2)), (0, 2), 3), [(0, 3)])

    def test_edges(self):
        same(self, (moves(ONE_PLACE, (), 0), moves((8, ()), tuple(range(7)), 7)), ([], []))
        same(self, moves(full(8), tuple(range(7)), 7),
             [tuple(place for place in range(8) if place != left) for left in range(6, -1, -1)])
        same(self, moves(full(8), (), 3), [])

    def test_all_askings_of_many_webs(self):
        for web in fewer_webs():
            for some in somes_of(web):
                for place in bare(web, some):
                    same(self, moves(web, some, place), moves_by_hand(web, some, place), (web, some, place))

    def test_a_place_with_a_guard(self):
        for web in SOME_WEBS:
            for some in somes_of(web):
                for place in some:
                    for function in OF_AN_ASKING:
                        refuse(self, NoPlace, function, web, some, place)


class Lasting(unittest.TestCase):
    def test_ordinary_families(self):
        same(self, is_lasting(row(2), [(0,), (1,)]), True)
        same(self, is_lasting(row(2), [(0,)]), False)
        same(self, is_lasting(row(2), [(0,), (0, 1), (1,)]), True)
        same(self, is_lasting(row(2), [(0, 1)]), True)
        same(self, is_lasting(row(3), [(0, 1), (0, 2), (1, 2)]), True)
        same(self, is_lasting(row(3), [(0, 2), (1, 2)]), True)
        same(self, is_lasting(row(3), [(0, 1), (1, 2)]), False)
        same(self, is_lasting(row(4), [(0, 2), (0, 3), (1, 2), (1, 3)]), True)
        same(self, is_lasting(row(4), [(0, 2), (0, 3), (1, 2)]), False)
        same(self, is_lasting(full(4), [(0,), (1,), (2,), (3,)]), True)
        same(self, is_lasting(full(4), [(0,), (1,), (2,)]), False)

    def test_edges(self):
        same(self, (is_lasting(ONE_PLACE, [(0,)]), is_lasting(ONE_PLACE, [()])), (True, False))
        same(self, is_lasting(ONE_PLACE, []), False)
        same(self, is_lasting((8, ()), [tuple(range(8))]), True)
        same(self, is_lasting((8, ()), [tuple(range(7))]), False)
        same(self, is_lasting((8, ()), [()]), False)

    def test_all_families_of_small_webs(self):
        for web in small_webs(3):
            somes = sorted(somes_of(web))
            for size in range(len(somes) + 1):
                for family in itertools.combinations(somes, size):
                    same(self, is_lasting(web, list(family)), lasts_by_hand(web, list(family)), (web, family))

    def test_families_changed(self):
        for web in list(small_webs(4)) + list(WEBS_BETWEEN) + list(WEBS_OF_8):
            for number in range(web[0] + 1):
                family = family_of(web, number)
                if not family:
                    continue
                same(self, is_lasting(web, family), True, (web, number))
                self.assertTrue(all(hold_all(web, some) for some in family))
                for at in range(0, len(family), 1 + len(family) // 8):
                    fewer = family[:at] + family[at + 1:]
                    same(self, is_lasting(web, fewer), lasts_by_hand(web, fewer), (web, fewer))
                    same(self, is_lasting(web, family[:at + 1] + family[at:]), False, (web, number, at))
                    same(self, is_lasting(web, family[:at] + [list(family[at])] + family[at + 1:]), False)
                others = [some for some in somes_of(web) if some not in family]
                for some in others[::1 + len(others) // 8]:
                    more = sorted(family + [some])
                    same(self, is_lasting(web, more), lasts_by_hand(web, more), (web, more))
                    if more[-1] != some:
                        same(self, is_lasting(web, family + [some]), False, (web, family, some))
                if len(family) > 1:
                    same(self, is_lasting(web, family[::-1]), False, (web, number))
                same(self, is_lasting(web, tuple(family)), False, (web, number))
                same(self, is_lasting(web, [tuple(family)]), False, (web, number))
                same(self, is_lasting(web, {some: True for some in family}), False, (web, number))

    def test_families_of_two_sizes(self):
        for web in small_webs(4):
            both = sorted(family_of(web, web[0]) + family_of(web, fewest_guards(web)))
            unlike = sorted(set(both))
            same(self, is_lasting(web, unlike), True, web)
            same(self, is_lasting(web, both), unlike == both, web)

    def test_of_anything(self):
        for web in SOME_WEBS:
            everything = tuple(range(web[0]))
            things = no_somes(web[0])
            for thing in things:
                before = repr(thing)
                same(self, is_lasting(web, thing), False, (web, thing))
                same(self, is_lasting(web, [thing]), False, (web, thing))
                same(self, is_lasting(web, [everything, thing]), False, (web, thing))
                same(self, is_lasting(web, [thing, everything]), False, (web, thing))
                same(self, thing, eval(before))
            for thing in NO_WHOLES + GREATS + (everything, (everything,), [list(everything)], {everything: 1},
                                               [everything, everything], str([everything]), [[everything]],
                                               deep(lambda inner: [inner], 9), {0: everything}):
                same(self, is_lasting(web, thing), False, (web, thing))

    def test_truths_are_no_places(self):
        same(self, is_lasting(row(2), [(False,), (True,)]), False)
        same(self, is_lasting(row(2), [(0,), (True,)]), False)
        same(self, is_lasting(row(2), [(False, True)]), False)
        same(self, is_lasting(ONE_PLACE, [(False,)]), False)


class Families(unittest.TestCase):
    def test_ordinary_webs(self):
        same(self, family_of(row(2), 1), [(0,), (1,)])
        same(self, family_of(row(3), 1), [])
        same(self, family_of(row(3), 2), [(0, 1), (0, 2), (1, 2)])
        same(self, family_of(row(4), 2), [(0, 2), (0, 3), (1, 2), (1, 3)])
        same(self, family_of(full(4), 1), [(0,), (1,), (2,), (3,)])
        same(self, family_of(ring(5), 2), [])
        same(self, family_of(star(4), 2), [])
        same(self, (fewest_guards(row(4)), first_guards(row(4))), (2, (0, 2)))
        same(self, (fewest_guards(ring(5)), first_guards(ring(5))), (3, (0, 1, 2)))
        same(self, (fewest_guards(star(5)), first_guards(star(5))), (4, (0, 1, 2, 3)))
        same(self, (fewest_guards(full(5)), first_guards(full(5))), (1, (0,)))
        same(self, (fewest_guards(row(8)), fewest_guards(ring(8)), fewest_guards(ring(7))), (4, 4, 4))
        same(self, fewest_guards(beside(ring(5), ring(3))), 4)
        same(self, fewest_guards(block(2, 4)), 4)

    def test_edges(self):
        same(self, (family_of(ONE_PLACE, 0), family_of(ONE_PLACE, 1)), ([], [(0,)]))
        same(self, (fewest_guards(ONE_PLACE), first_guards(ONE_PLACE)), (1, (0,)))
        same(self, (fewest_guards((8, ())), first_guards((8, ()))), (8, tuple(range(8))))
        same(self, (fewest_guards(full(8)), first_guards(full(8))), (1, (0,)))
        for web in SOME_WEBS:
            same(self, family_of(web, 0), [], web)
            same(self, family_of(web, web[0]), [tuple(range(web[0]))], web)

    def test_by_going_through_all_families(self):
        for web in list(small_webs(4)) + list(webs_of(5))[5::97]:
            for number in range(web[0] + 1):
                somes = sizes(web, number)
                due = set()
                for size in range(1, len(somes) + 1):
                    for family in itertools.combinations(somes, size):
                        if not set(family) <= due and lasts_by_hand(web, list(family)):
                            due |= set(family)
                same(self, family_of(web, number), sorted(due), (web, number))

    def test_many_webs(self):
        for web in sample_webs():
            found = {number: family_of(web, number) for number in range(web[0] + 1)}
            for number, family in found.items():
                same(self, is_lasting(web, family), family != [], (web, number))
                self.assertTrue(all(len(some) == number for some in family), (web, number))
            due = min(number for number, family in found.items() if family)
            same(self, fewest_guards(web), due, web)
            same(self, first_guards(web), found[due][0], web)

    def test_the_lists_told_are_the_askers_own(self):
        for web in SOME_WEBS:
            for number in range(web[0] + 1):
                check_own_list(self, family_of, web, number)
            for some in somes_of(web):
                if len(some) < web[0]:
                    check_own_list(self, moves, web, some, bare(web, some)[0])


class Days(unittest.TestCase):
    def test_ordinary_some(self):
        same(self, days(row(3), (0,)), 0)
        same(self, days(row(3), (1,)), 1)
        same(self, days(row(3), (0, 1)), None)
        same(self, days(star(4), (0, 1)), 1)
        same(self, days(star(4), (1, 2)), 0)
        same(self, days(star(4), (0, 1, 2)), None)
        same(self, days(row(4), (0, 1)), 0)
        same(self, days(row(4), (1, 2)), None)
        # two that are not tied hold all, but asked for the place between them they are tied
        same(self, [days(ring(5), some) for some in sizes(ring(5), 2)], [0, 1, 1, 0, 0, 1, 1, 0, 1, 0])

    def test_edges(self):
        same(self, (days(ONE_PLACE, ()), days(ONE_PLACE, (0,))), (0, None))
        same(self, (days((8, ()), ()), days((8, ()), tuple(range(7))), days((8, ()), tuple(range(8)))), (0, 0, None))
        same(self, (days(full(8), ()), days(full(8), (7,)), days(full(8), tuple(range(8)))), (0, None, None))

    def test_all_some_of_many_webs(self):
        found = set()
        for web in fewer_webs():
            reckoner = Reckoner(web)
            for some in somes_of(web):
                due = reckoner.days(some)
                found.add(due)
                same(self, days(web, some), None if due == math.inf else due, (web, some))
        # these webs have somes of several days
        self.assertTrue({0, 1, 2, math.inf} <= found, found)

    def test_none_just_where_a_lasting_family_has_it(self):
        for web in fewer_webs():
            for number in range(web[0] + 1):
                family = family_of(web, number)
                for some in sizes(web, number):
                    same(self, days(web, some) is None, some in family, (web, some))


class Askings(unittest.TestCase):
    def test_ordinary_some(self):
        same(self, worst_asking(row(3), (1,)), 0)
        # 0 is answered and leaves one day, 2 and 3 are not
        same(self, worst_asking(star(4), (1,)), 2)
        same(self, worst_asking(row(4), (0, 1)), 3)
        same(self, worst_asking(row(4), (1, 2)), 0)
        same(self, best_move(row(3), (1,), 0), (0,))
        same(self, best_move(row(4), (0, 1), 3), None)
        # the other guard may move as well, but leaves a place that no guard is tied to
        same(self, best_move(row(4), (0, 2), 1), (1, 2))
        same(self, best_move(full(4), (1, 2), 0), (0, 1))
        same(self, best_move(star(4), (1, 2, 3), 0), (0, 1, 2))

    def test_edges(self):
        same(self, (worst_asking(ONE_PLACE, ()), best_move(ONE_PLACE, (), 0)), (0, None))
        same(self, (worst_asking((8, ()), tuple(range(7))), best_move((8, ()), tuple(range(7)), 7)), (7, None))
        same(self, (worst_asking(full(8), ()), best_move(full(8), (), 7)), (0, None))
        same(self, (worst_asking(full(8), (0,)), best_move(full(8), (0,), 7)), (1, (7,)))

    def test_all_some_of_many_webs(self):
        for web in fewer_webs():
            reckoner = Reckoner(web)
            for some in somes_of(web):
                left = {place: reckoner.left(some, place) for place in bare(web, some)}
                if left:
                    due = min(left, key=lambda place: (left[place], place))
                    same(self, worst_asking(web, some), due, (web, some))
                for place in left:
                    found = [move for move in moves_by_hand(web, some, place)
                             if reckoner.days(move) == left[place]]
                    due = min(found, default=None)
                    same(self, best_move(web, some, place), due, (web, some, place))

    def test_days_are_one_more_than_the_worst_asking_leaves(self):
        for web in list(small_webs(4)) + list(WEBS_BETWEEN):
            for some in somes_of(web):
                many = days(web, some)
                if len(some) < web[0]:
                    move = best_move(web, some, worst_asking(web, some))
                    if move is None:
                        same(self, many, 0, (web, some))
                    else:
                        left = days(web, move)
                        same(self, many, None if left is None else left + 1, (web, some))

    def test_a_guard_on_each_place(self):
        for web in SOME_WEBS:
            refuse(self, NoPlace, worst_asking, web, tuple(range(web[0])))


class Refused(unittest.TestCase):
    def test_no_web(self):
        for thing in NO_WEBS:
            for function in OF_A_WEB:
                refuse(self, NoWeb, function, thing)
            for function in OF_SOME:
                refuse(self, NoWeb, function, thing, ())
            for function in OF_AN_ASKING:
                refuse(self, NoWeb, function, thing, (), 0)
            refuse(self, NoWeb, is_lasting, thing, [(0,)])
            refuse(self, NoWeb, family_of, thing, 1)

    def test_no_some(self):
        for web in SOME_WEBS:
            for thing in no_somes(web[0]):
                for function in OF_SOME:
                    refuse(self, NoPlaces, function, web, thing)
                for function in OF_AN_ASKING:
                    refuse(self, NoPlaces, function, web, thing, 0)

    def test_no_place(self):
        for web in SOME_WEBS:
            for thing in no_places(web[0]):
                for function in OF_AN_ASKING:
                    refuse(self, NoPlace, function, web, (), thing)
                    refuse(self, NoPlace, function, web, (0,), thing)
                    refuse(self, NoPlace, function, web, tuple(range(web[0])), thing)

    def test_no_number(self):
        for web in SOME_WEBS:
            for thing in NO_WHOLES + GREATS + (-1, -web[0], web[0] + 1, web[0] + 2, 9, 100):
                refuse(self, NoNumber, family_of, web, thing)

    def test_no_web_comes_ahead_of_all(self):
        for web, thing in itertools.product(NO_WEBS, (None, [0], (1, 0), (True,), "0", GREATS[0], (8,), -1, True)):
            for function in OF_SOME + (is_lasting, family_of):
                refuse(self, NoWeb, function, web, thing)
            for function in OF_AN_ASKING:
                refuse(self, NoWeb, function, web, thing, 0)
                refuse(self, NoWeb, function, web, thing, thing)
                refuse(self, NoWeb, function, web, (), thing)

    def test_no_some_comes_ahead_of_no_place(self):
        for some, place in itertools.product(NO_SOMES, (None, True, -1, 8, "0", [0], (), {}, GREAT, 0, 1)):
            for function in OF_AN_ASKING:
                refuse(self, NoPlaces, function, WEBS_OF_8[3], some, place)
        # a guard on each place, were it not twice or turned round or a list
        for some in ((0, 1, 2, 2), (2, 1, 0), [0, 1, 2], (False, 1, 2)):
            refuse(self, NoPlaces, worst_asking, row(3), some)


if __name__ == "__main__":
    unittest.main()
