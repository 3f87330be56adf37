"""0.2, 0.3, 0.4, 9.1 to 9.4 and the interface of counts.py."""

import itertools
import unittest

from holdplaces import counts
from holdplaces.counts import by_size, many_holding, many_parted, multiplied, parted_with, piece_counts, with_tie
from holdplaces.errors import NoNumber, NoPlace, NoPlaces, NoWeb
from holdplaces.fewest import fewest, most_apart
from holdplaces.kinds import beside, crowned, full, ring, row, star
from holdplaces.shares import worth
from holdplaces.webs import is_web
from things import (
    GREAT, GREATS, NO_WEBS, NO_WHOLES, WEBS_BETWEEN, WEBS_OF_8, check_arguments, check_own_list, deep, fewer_webs,
    held_by, hold_all, no_places, no_somes, refuse, same, sample_webs, small_webs, somes_of, webs_of,
)

ONE_PLACE = (1, ())
SOME_WEBS = (ONE_PLACE, row(2), row(4), (4, ()), star(5), beside(ring(3), row(2)), full(8), (8, ()), ring(8))
OF_A_WEB = (by_size, many_holding, many_parted, piece_counts)


def sizes_by_hand(web):
    told = [0] * (web[0] + 1)
    for some in somes_of(web):
        told[len(some)] += hold_all(web, some)
    return told


def are_parted(web, one, other):
    return not set(one) & set(other) and not any(
        (a in one and b in other) or (a in other and b in one) for a, b in web[1])


def pieces_by_hand(web):
    """The webs of the pieces, found by joining what is tied."""
    group = {place: {place} for place in range(web[0])}
    for a, b in web[1]:
        joined = group[a] | group[b]
        for place in joined:
            group[place] = joined
    told = []
    for piece in sorted({tuple(sorted(found)) for found in group.values()}):
        anew = {place: at for at, place in enumerate(piece)}
        told.append((len(piece), tuple((anew[a], anew[b]) for a, b in web[1] if a in anew)))
    return told


def product_by_hand(one, other):
    told = {}
    for (i, a), (j, b) in itertools.product(enumerate(one), enumerate(other)):
        told[i + j] = told.get(i + j, 0) + a * b
    return [told[k] for k in sorted(told)]


class Interface(unittest.TestCase):
    def test_arguments_stand_in_the_order_told(self):
        told = {function.__name__: ["web"] for function in OF_A_WEB}
        told.update({
            "parted_with": ["web", "some"], "with_tie": ["web", "one", "other"], "multiplied": ["one", "other"],
        })
        check_arguments(self, counts, told)


class BySize(unittest.TestCase):
    def test_ordinary_webs(self):
        same(self, by_size(row(3)), [0, 1, 3, 1])
        same(self, by_size(row(4)), [0, 0, 4, 4, 1])
        same(self, by_size(full(3)), [0, 3, 3, 1])
        same(self, by_size((3, ())), [0, 0, 0, 1])
        same(self, by_size(star(4)), [0, 1, 3, 4, 1])
        same(self, by_size(beside(row(2), row(1))), [0, 0, 2, 1])
        same(self, (many_holding(row(3)), many_holding(row(4)), many_holding(full(3))), (5, 9, 7))
        same(self, (many_holding((3, ())), many_holding(star(4))), (1, 9))

    def test_edges(self):
        same(self, (by_size(ONE_PLACE), many_holding(ONE_PLACE)), ([0, 1], 1))
        same(self, (by_size((8, ())), many_holding((8, ()))), ([0] * 8 + [1], 1))
        same(self, (by_size(full(8)), many_holding(full(8))), ([0, 8, 28, 56, 70, 56, 28, 8, 1], 255))

    def test_many_webs(self):
        for web in sample_webs():
            due = sizes_by_hand(web)
            same(self, by_size(web), due, web)
            same(self, many_holding(web), sum(due), web)
            same(self, many_holding(web) % 2, 1, web)

    def test_the_list_told_is_the_askers_own(self):
        for web in SOME_WEBS:
            check_own_list(self, by_size, web)


class Parted(unittest.TestCase):
    def test_ordinary_some(self):
        same(self, parted_with(row(4), (0,)), 4)
        same(self, parted_with(row(4), (1,)), 2)
        same(self, parted_with(row(4), ()), 16)
        same(self, parted_with(row(4), (1, 2)), 1)
        same(self, parted_with(beside(row(2), row(2)), (0, 1)), 4)
        same(self, many_parted(row(2)), 7)
        same(self, many_parted((2, ())), 9)
        same(self, many_parted(full(3)), 15)

    def test_edges(self):
        same(self, (parted_with(ONE_PLACE, ()), parted_with(ONE_PLACE, (0,)), many_parted(ONE_PLACE)), (2, 1, 3))
        same(self, (parted_with((8, ()), ()), parted_with((8, ()), tuple(range(8)))), (256, 1))
        same(self, (parted_with((8, ()), (3,)), parted_with(full(8), (3,))), (128, 1))
        # each place is in the one, in the other or in none
        same(self, many_parted((8, ())), 3 ** 8)
        same(self, many_parted(full(8)), 2 * 2 ** 8 - 1)

    def test_each_two_somes_of_many_webs(self):
        for web in list(small_webs(4)) + list(webs_of(5))[::9] + list(WEBS_BETWEEN[:4]) + [WEBS_OF_8[9]]:
            somes = list(somes_of(web))
            found = [sum(are_parted(web, one, other) for other in somes) for one in somes]
            same(self, [parted_with(web, one) for one in somes], found, web)
            same(self, many_parted(web), sum(found), web)

    def test_what_is_said_of_them(self):
        for web in fewer_webs():
            found = {some: parted_with(web, some) for some in somes_of(web)}
            same(self, many_parted(web), sum(found.values()), web)
            same(self, many_parted(web) % 2, 1, web)
            for some, many in found.items():
                same(self, many, 2 ** (web[0] - len(held_by(web, some))), (web, some))
                same(self, many % 2 == 1, hold_all(web, some), (web, some))


class WithTie(unittest.TestCase):
    def test_ordinary_ties(self):
        same(self, with_tie(row(3), 0, 2), (3, ((0, 1), (0, 2), (1, 2))))
        same(self, with_tie(row(3), 2, 0), (3, ((0, 1), (0, 2), (1, 2))))
        same(self, with_tie((4, ()), 3, 1), (4, ((1, 3),)))
        same(self, with_tie(beside(row(2), row(2)), 1, 2), row(4))
        same(self, with_tie(row(8), 7, 0), ring(8))

    def test_tied_already(self):
        for web in SOME_WEBS:
            for a, b in web[1]:
                same(self, with_tie(web, a, b), web)
                same(self, with_tie(web, b, a), web)

    def test_all_ties_of_many_webs(self):
        for web in fewer_webs():
            for one, other in itertools.permutations(range(web[0]), 2):
                before = repr(web)
                due = (web[0], tuple(sorted(set(web[1]) | {tuple(sorted((one, other)))})))
                told = with_tie(web, one, other)
                same(self, told, due, (web, one, other))
                self.assertTrue(is_web(told), told)
                same(self, repr(web), before)

    def test_what_holds_all_holds_all_with_a_tie_more(self):
        for web in list(small_webs(4)) + list(webs_of(5))[::33] + list(WEBS_BETWEEN) + list(WEBS_OF_8[:12:3]):
            few, size, (top, bottom), most = fewest(web), by_size(web), worth(web), most_apart(web)
            for one, other in itertools.combinations(range(web[0]), 2):
                told = with_tie(web, one, other)
                self.assertTrue(all(a <= b for a, b in zip(size, by_size(told), strict=True)), (web, told))
                self.assertLessEqual(fewest(told), few, (web, told))
                self.assertLessEqual(most_apart(told), most, (web, told))
                self.assertLessEqual(worth(told)[0] * bottom, top * worth(told)[1], (web, told))

    def test_two_that_are_the_same(self):
        for web in SOME_WEBS:
            for place in range(web[0]):
                refuse(self, NoPlace, with_tie, web, place, place)

    def test_no_place(self):
        for web in SOME_WEBS:
            for thing in no_places(web[0]):
                refuse(self, NoPlace, with_tie, web, thing, 0)
                refuse(self, NoPlace, with_tie, web, 0, thing)
                refuse(self, NoPlace, with_tie, web, thing, thing)


class Multiplied(unittest.TestCase):
    def test_ordinary_lists(self):
        same(self, multiplied([1, 2], [3, 4, 5]), [3, 10, 13, 10])
        same(self, multiplied([0, 1], [0, 1]), [0, 0, 1])
        same(self, multiplied([0, 2, 1], [0, 1]), [0, 0, 2, 1])
        same(self, multiplied([1, 1], [1, 2, 1]), [1, 3, 3, 1])

    def test_edges(self):
        same(self, (multiplied([0], [0]), multiplied([7], [6]), multiplied([1], [2, 3])), ([0], [42], [2, 3]))
        same(self, multiplied([0, 0], [0, 0, 0]), [0, 0, 0, 0])
        same(self, multiplied([GREAT], [GREAT, 1]), [GREAT * GREAT, GREAT])

    def test_many_lists(self):
        found = [list(numbers) for size in (1, 2, 3) for numbers in itertools.product((0, 1, 5), repeat=size)]
        found += [[GREAT, 0, 3], list(range(20)), [10 ** 30] * 9]
        for one, other in itertools.product(found, repeat=2):
            before = repr((one, other))
            same(self, multiplied(one, other), product_by_hand(one, other), (one, other))
            same(self, repr((one, other)), before)

    def test_the_list_told_is_the_askers_own(self):
        for one, other in (([1], [2]), ([1], [2, 3]), ([1, 2], [1]), ([0], [0]), ([1, 2, 3], [4, 5])):
            check_own_list(self, multiplied, one, other)
        one = [1, 2]
        self.assertIsNot(multiplied(one, [1]), one)
        same(self, multiplied(one, one), [1, 4, 4])

    def test_no_numbers(self):
        things = tuple(thing for thing in NO_WHOLES if thing not in ([0], [1], [0, 1])) + GREATS + (
            0, 1, -1, [-1], [1, -1], [-1, 1], [True], [False], [1, True], [False, 1], [None], ["1"], [1, "1"], ["", 1],
            [[1]], [1, [1]], [(1,)], [1, ()], [{}], [1, {}], (1, 2), "1 2", {0: 1, 1: 2}, [-GREAT], [1, 2, 3, -1],
            deep(lambda inner: [inner], 2),
        )
        for thing in things:
            refuse(self, NoNumber, multiplied, thing, [1])
            refuse(self, NoNumber, multiplied, [1], thing)
            refuse(self, NoNumber, multiplied, thing, thing)
            refuse(self, NoNumber, multiplied, thing, [1, 2, 3])


class PieceCounts(unittest.TestCase):
    def test_ordinary_webs(self):
        same(self, piece_counts(row(3)), [[0, 1, 3, 1]])
        same(self, piece_counts(beside(row(3), row(1))), [[0, 1, 3, 1], [0, 1]])
        same(self, piece_counts((3, ())), [[0, 1], [0, 1], [0, 1]])
        # the pieces by their least places, whatever stands between
        same(self, piece_counts((5, ((0, 4), (1, 2), (2, 3)))), [[0, 2, 1], [0, 1, 3, 1]])
        same(self, piece_counts((4, ((1, 2), (1, 3), (2, 3)))), [[0, 1], [0, 3, 3, 1]])

    def test_edges(self):
        same(self, piece_counts(ONE_PLACE), [[0, 1]])
        same(self, piece_counts((8, ())), [[0, 1]] * 8)
        same(self, piece_counts(full(8)), [[0, 8, 28, 56, 70, 56, 28, 8, 1]])
        same(self, piece_counts((2, ())), [[0, 1], [0, 1]])

    def test_many_webs(self):
        for web in sample_webs():
            told = piece_counts(web)
            same(self, told, [sizes_by_hand(piece) for piece in pieces_by_hand(web)], web)
            product = [1]
            for found in told:
                product = multiplied(product, found)
            same(self, product, by_size(web), web)

    def test_what_is_put_beside_is_multiplied(self):
        for one, other in itertools.product((ONE_PLACE, row(3), full(4), (2, ()), crowned(row(2))), repeat=2):
            same(self, by_size(beside(one, other)), multiplied(by_size(one), by_size(other)))
            same(self, piece_counts(beside(one, other)), piece_counts(one) + piece_counts(other))

    def test_the_lists_told_are_the_askers_own(self):
        for web in SOME_WEBS:
            check_own_list(self, piece_counts, web)
            told = piece_counts(web)
            due = repr(told)
            for found in told:
                found.reverse()
                found.append("more")
                found[0] = None
            same(self, repr(piece_counts(web)), due)
            # not even two pieces alike have a list in common
            same(self, len({id(found) for found in told}), len(told))


class Refused(unittest.TestCase):
    def test_no_web(self):
        for thing in NO_WEBS:
            for function in OF_A_WEB:
                refuse(self, NoWeb, function, thing)
            refuse(self, NoWeb, parted_with, thing, ())
            refuse(self, NoWeb, with_tie, thing, 0, 1)

    def test_no_some(self):
        for web in SOME_WEBS:
            for thing in no_somes(web[0]):
                refuse(self, NoPlaces, parted_with, web, thing)

    def test_no_web_comes_ahead_of_all(self):
        for web, thing in itertools.product(NO_WEBS, (None, [0], (1, 0), (True,), "0", GREATS[0], -1, 8, True)):
            refuse(self, NoWeb, parted_with, web, thing)
            refuse(self, NoWeb, with_tie, web, thing, 0)
            refuse(self, NoWeb, with_tie, web, 0, thing)
            refuse(self, NoWeb, with_tie, web, thing, thing)


if __name__ == "__main__":
    unittest.main()
