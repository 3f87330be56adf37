"""0.3, 0.4, 6.1 to 6.5 and the interface of lines.py."""

import itertools
import unittest

from holdplaces import fewest as of_webs
from holdplaces import lines
from holdplaces.errors import NoNumber
from holdplaces.kinds import block, ring, row
from holdplaces.lines import (
    ladder_fewest, ladder_paper, ladder_set, ring_fewest, ring_holding, ring_many, ring_once, ring_paper, ring_set,
    row_fewest, row_holding, row_many, row_once, row_paper, row_set,
)
from things import GREATS, NO_WHOLES, check_arguments, check_own_list, hold_all, reach, refuse, same, somes_of

OF_ROWS = (row_fewest, row_set, row_paper, row_many, row_once, row_holding)
OF_RINGS = (ring_fewest, ring_set, ring_paper, ring_many, ring_once, ring_holding)
OF_LADDERS = (ladder_fewest, ladder_set, ladder_paper)
MOST = 300


def row_line(n):
    """For each place of the row the set of those that it holds."""
    return {place: {place - 1, place, place + 1} & set(range(n)) for place in range(n)}


def ring_line(n):
    return {place: {(place - 1) % n, place, (place + 1) % n} for place in range(n)}


def ladder_line(n):
    ties = [(2 * step, 2 * step + 1) for step in range(n)]
    ties += [(2 * step + side, 2 * step + 2 + side) for step in range(n - 1) for side in (0, 1)]
    return reach((2 * n, ties))


def is_rising_places(thing, line):
    kinds = all(type(place) is int and place in line for place in thing)
    return type(thing) is tuple and kinds and all(a < b for a, b in zip(thing, thing[1:]))


def is_held(line, some):
    return set().union(*(line[place] for place in some)) == set(line)


def is_parted(line, some):
    return sum(len(line[place]) for place in some) == len(set().union(*(line[place] for place in some)))


def all_held_somes(line):
    return [some for size in range(len(line) + 1) for some in itertools.combinations(sorted(line), size)
            if is_held(line, some)]


def put(counts, more):
    """How many there are by size, one place more being taken where more is 1."""
    return [0] * more + counts


def together(one, other):
    return [a + b for a, b in itertools.zip_longest(one, other, fillvalue=0)]


def next_place(states):
    """Of each two last places that are taken or not: how many there are by size once a place more is looked at."""
    following = {}
    for (before, last), counts in states.items():
        for new in (0, 1):
            # the last one's holders are known by now
            if before or last or new:
                key = (last, new)
                following[key] = together(following.get(key, []), put(counts, new))
    return following


def counted_rows(most):
    """For each n, by going along the row place by place, how many somes hold all of it by size."""
    told = {}
    # ahead of the row there is none to hold its first place, and what is there needs no holder
    states = {(0, 0): [1], (0, 1): [0, 1]}
    for n in range(1, most + 1):
        told[n] = []
        for (before, last), counts in states.items():
            if before or last:
                told[n] = together(told[n], counts)
        states = next_place(states)
    return told


def counted_rings(most):
    told = {n: [] for n in range(3, most + 1)}
    for first, second in itertools.product((0, 1), repeat=2):
        states = {(first, second): put(put([1], first), second)}
        for n in range(3, most + 1):
            states = next_place(states)
            for (before, last), counts in states.items():
                if (before or last or first) and (last or first or second):
                    told[n] = together(told[n], counts)
    return told


class Interface(unittest.TestCase):
    def test_arguments_stand_in_the_order_told(self):
        check_arguments(self, lines, {function.__name__: ["n"] for function in OF_ROWS + OF_RINGS + OF_LADDERS})


class Fewest(unittest.TestCase):
    def test_ordinary_numbers(self):
        same(self, [row_fewest(n) for n in range(1, 11)], [1, 1, 1, 2, 2, 2, 3, 3, 3, 4])
        same(self, [ring_fewest(n) for n in range(3, 11)], [1, 2, 2, 2, 3, 3, 3, 4])
        same(self, [ladder_fewest(n) for n in range(1, 11)], [1, 2, 2, 3, 3, 4, 4, 5, 5, 6])

    def test_edges(self):
        same(self, (row_fewest(1), row_fewest(2), row_fewest(3), row_fewest(300)), (1, 1, 1, 100))
        same(self, (ring_fewest(3), ring_fewest(299), ring_fewest(300)), (1, 100, 100))
        same(self, (ladder_fewest(1), ladder_fewest(2), ladder_fewest(3), ladder_fewest(300)), (1, 2, 2, 151))
        same(self, (row_fewest(298), row_fewest(297)), (100, 99))

    def test_small_ones_by_going_through_all_some(self):
        for n in range(1, 12):
            same(self, row_fewest(n), len(all_held_somes(row_line(n))[0]), n)
        for n in range(3, 12):
            same(self, ring_fewest(n), len(all_held_somes(ring_line(n))[0]), n)
        for n in range(1, 7):
            same(self, ladder_fewest(n), len(all_held_somes(ladder_line(n))[0]), n)

    def check_set(self, told, line, few, n):
        self.assertTrue(is_rising_places(told, line), (n, told))
        self.assertTrue(is_held(line, told), (n, told))
        same(self, len(told), few, n)

    def test_sets(self):
        for n in range(1, MOST + 1):
            self.check_set(row_set(n), row_line(n), row_fewest(n), n)
            same(self, row_fewest(n), (n + 2) // 3, n)
        for n in range(3, MOST + 1):
            self.check_set(ring_set(n), ring_line(n), ring_fewest(n), n)
            same(self, ring_fewest(n), (n + 2) // 3, n)

    def test_sets_of_ladders(self):
        for n in range(1, MOST + 1):
            self.check_set(ladder_set(n), ladder_line(n), ladder_fewest(n), n)
            same(self, ladder_fewest(n), n // 2 + 1, n)


class Papers(unittest.TestCase):
    def check_paper(self, told, line, few, n):
        self.assertTrue(is_rising_places(told, line), (n, told))
        self.assertTrue(is_parted(line, told), (n, told))
        same(self, len(told), few, n)

    def test_rows_and_rings(self):
        for n in range(1, MOST + 1):
            self.check_paper(row_paper(n), row_line(n), len(row_set(n)), n)
        for n in range(3, MOST + 1):
            if n % 3 == 0:
                self.check_paper(ring_paper(n), ring_line(n), len(ring_set(n)), n)
            else:
                same(self, ring_paper(n), None, n)

    def test_ladders(self):
        for n in range(1, MOST + 1):
            if n % 2 == 1:
                self.check_paper(ladder_paper(n), ladder_line(n), len(ladder_set(n)), n)
            else:
                same(self, ladder_paper(n), None, n)

    def test_where_there_is_none_none_could_be_told(self):
        for n, line in [(n, ring_line(n)) for n in (4, 5, 7, 8, 10)] + [(n, ladder_line(n)) for n in (2, 4, 6)]:
            few = len(all_held_somes(line)[0])
            self.assertFalse(any(is_parted(line, some) for some in itertools.combinations(sorted(line), few)), n)

    def test_edges(self):
        same(self, (row_paper(1), len(row_paper(300))), ((0,), 100))
        same(self, (len(ring_paper(3)), ring_paper(4), len(ring_paper(300)), ring_paper(299)), (1, None, 100, None))
        same(self, (len(ladder_paper(1)), ladder_paper(2), len(ladder_paper(3))), (1, None, 2))
        same(self, (ladder_paper(300), len(ladder_paper(299))), (None, 150))


class Many(unittest.TestCase):
    def test_ordinary_numbers(self):
        same(self, [row_many(n) for n in range(1, 11)], [1, 2, 1, 4, 3, 1, 8, 4, 1, 13])
        same(self, [ring_many(n) for n in range(3, 11)], [3, 6, 5, 3, 14, 8, 3, 25])
        same(self, (row_many(298), row_many(299), row_many(300)), (5149, 101, 1))
        same(self, (ring_many(298), ring_many(299), ring_many(300)), (15049, 299, 3))

    def test_small_ones_by_going_through_all_some(self):
        for function, line, least in ((row_many, row_line, 1), (ring_many, ring_line, 3)):
            for n in range(least, 13):
                found = all_held_somes(line(n))
                same(self, function(n), sum(len(some) == len(found[0]) for some in found), n)

    def test_all_by_going_place_by_place(self):
        for function, few, counted in ((row_many, row_fewest, counted_rows(MOST)),
                                       (ring_many, ring_fewest, counted_rings(MOST))):
            for n, counts in counted.items():
                due = [(size, many) for size, many in enumerate(counts) if many][0]
                same(self, (few(n), function(n)), due, n)


class Once(unittest.TestCase):
    def test_ordinary_numbers(self):
        same(self, [row_once(n) for n in range(1, 6)], [[(0,)], [(0,), (1,)], [(1,)], [(0, 3)], [(0, 3), (1, 4)]])
        same(self, row_once(7), [(0, 3, 6)])
        same(self, [ring_once(n) for n in range(3, 7)], [[(0,), (1,), (2,)], [], [], [(0, 3), (1, 4), (2, 5)]])

    def test_small_ones_by_going_through_all_some(self):
        for function, line, least in ((row_once, row_line, 1), (ring_once, ring_line, 3)):
            for n in range(least, 13):
                found = line(n)
                due = sorted(some for some in all_held_somes(found) if is_parted(found, some))
                same(self, function(n), due, n)

    def check_once(self, told, line, many, n):
        self.assertIs(type(told), list)
        same(self, len(told), many, n)
        self.assertTrue(all(a < b for a, b in zip(told, told[1:])), n)
        for some in told:
            self.assertTrue(is_rising_places(some, line) and is_held(line, some) and is_parted(line, some), n)

    def test_all_lengths(self):
        for n in range(1, MOST + 1):
            self.check_once(row_once(n), row_line(n), 2 if n % 3 == 2 else 1, n)
        for n in range(3, MOST + 1):
            self.check_once(ring_once(n), ring_line(n), 3 if n % 3 == 0 else 0, n)

    def test_the_lists_told_are_the_askers_own(self):
        for n in (1, 2, 3, 4, 5, 6, 299, 300):
            check_own_list(self, row_once, n)
        for n in (3, 4, 5, 6, 299, 300):
            check_own_list(self, ring_once, n)


class Holding(unittest.TestCase):
    def test_ordinary_numbers(self):
        same(self, [row_holding(n) for n in range(1, 9)], [1, 3, 5, 9, 17, 31, 57, 105])
        same(self, [ring_holding(n) for n in range(3, 9)], [7, 11, 21, 39, 71, 131])

    def test_small_ones_by_going_through_all_some(self):
        for function, line, least in ((row_holding, row_line, 1), (ring_holding, ring_line, 3)):
            for n in range(least, 13):
                same(self, function(n), len(all_held_somes(line(n))), n)

    def test_all_by_going_place_by_place(self):
        for function, counted in ((row_holding, counted_rows(MOST)), (ring_holding, counted_rings(MOST))):
            for n, counts in counted.items():
                same(self, function(n), sum(counts), n)

    def test_each_longer_one_is_the_three_ahead_together(self):
        for n in range(4, MOST + 1):
            same(self, row_holding(n), row_holding(n - 1) + row_holding(n - 2) + row_holding(n - 3), n)
        for n in range(6, MOST + 1):
            same(self, ring_holding(n), ring_holding(n - 1) + ring_holding(n - 2) + ring_holding(n - 3), n)


class AsWebs(unittest.TestCase):
    """What is told of n is told of the web, too, where that is small enough to be one."""

    def check_web(self, web, few, many, once, holding):
        found = of_webs.all_fewest(web)
        same(self, few, of_webs.fewest(web), web)
        same(self, many, len(found), web)
        same(self, once, of_webs.all_once(web), web)
        same(self, holding, sum(hold_all(web, some) for some in somes_of(web)), web)
        return found

    def test_rows(self):
        for n in range(1, 9):
            found = self.check_web(row(n), row_fewest(n), row_many(n), row_once(n), row_holding(n))
            self.assertIn(row_set(n), found)
            same(self, of_webs.is_paper(row(n), row_set(n), row_paper(n)), True, n)

    def test_rings(self):
        for n in range(3, 9):
            found = self.check_web(ring(n), ring_fewest(n), ring_many(n), ring_once(n), ring_holding(n))
            self.assertIn(ring_set(n), found)
            same(self, ring_paper(n) is None, of_webs.paper_for(ring(n)) is None, n)
            same(self, of_webs.is_paper(ring(n), ring_set(n), ring_paper(n)), n % 3 == 0, n)

    def test_ladders(self):
        for n in range(1, 5):
            # a block of two columns numbers its places just so
            web = block(n, 2)
            same(self, ladder_fewest(n), of_webs.fewest(web), n)
            self.assertIn(ladder_set(n), of_webs.all_fewest(web))
            same(self, ladder_paper(n) is None, of_webs.paper_for(web) is None, n)
            same(self, of_webs.is_paper(web, ladder_set(n), ladder_paper(n)), n % 2 == 1, n)


class Refused(unittest.TestCase):
    def test_no_number(self):
        for thing in NO_WHOLES + GREATS + (0, -1, -2, -3, -300, 301, 302, 303, 600, 1000, "300", (300,), [300]):
            for function in OF_ROWS + OF_RINGS + OF_LADDERS:
                refuse(self, NoNumber, function, thing)

    def test_no_ring_of_one_or_two(self):
        for function in OF_RINGS:
            refuse(self, NoNumber, function, 1)
            refuse(self, NoNumber, function, 2)
        for function in OF_ROWS + OF_LADDERS:
            function(1)
            function(2)


if __name__ == "__main__":
    unittest.main()
