"""0.3, 0.4, 5.1 to 5.4 and the interface of trees.py."""

import itertools
import unittest

from holdplaces import trees as module
from holdplaces.errors import NoPlace, NotTree, NoWeb
from holdplaces.fewest import fewest, is_apart, is_paper, most_apart
from holdplaces.holding import holds_all
from holdplaces.kinds import crowned, ring, row, star
from holdplaces.trees import above, by_ends, ends, from_far, steps, tree_pair
from things import (
    GREATS, NO_TREES, NO_WEBS, check_arguments, check_own_list, hold_all, hoods_apart, no_places, reach, refuse, same,
    sample_trees,
)

OF_A_TREE = (ends, by_ends)
OF_A_ROOT = (above, from_far, steps, tree_pair)
ONE_PLACE = (1, ())
# 0 - 2 - 1 - 4, and 2 - 3
TREE = (5, ((0, 2), (1, 2), (1, 4), (2, 3)))
SOME_TREES = (ONE_PLACE, row(2), row(3), star(4), TREE, row(8), crowned(row(4)))


def ways_by_hand(web, root):
    """Each place's way to the root, from its upper place on."""
    held = reach(web)
    ways = {root: ()}
    for _ in range(web[0]):
        for place, way in list(ways.items()):
            for other in held[place]:
                ways.setdefault(other, (place,) + way)
    return ways


def far_first(web, root):
    ways = ways_by_hand(web, root)
    # sorted leaves those as far in the order they had
    return sorted(range(web[0]), key=lambda place: len(ways[place]), reverse=True)


def steps_by_hand(web, root):
    held = reach(web)
    ways = ways_by_hand(web, root)
    left = set(range(web[0]))
    told = []
    for place in far_first(web, root):
        if place in left:
            holder = (ways[place] + (root,))[0]
            told.append((place, holder))
            left -= held[holder]
    return told


class Interface(unittest.TestCase):
    def test_arguments_stand_in_the_order_told(self):
        told = {function.__name__: ["web"] for function in OF_A_TREE}
        told.update({function.__name__: ["web", "root"] for function in OF_A_ROOT})
        check_arguments(self, module, told)


class Ends(unittest.TestCase):
    def test_ordinary_trees(self):
        same(self, ends(TREE), (0, 3, 4))
        same(self, ends(row(5)), (0, 4))
        same(self, ends(star(5)), (1, 2, 3, 4))
        same(self, ends(crowned(row(4))), (4, 5, 6, 7))

    def test_edges(self):
        same(self, (ends(ONE_PLACE), ends(row(2)), ends(row(3))), ((), (0, 1), (0, 2)))
        same(self, (ends(row(8)), ends(star(8))), ((0, 7), (1, 2, 3, 4, 5, 6, 7)))

    def test_many_trees(self):
        for web in sample_trees():
            flat = [place for tie in web[1] for place in tie]
            same(self, ends(web), tuple(place for place in range(web[0]) if flat.count(place) == 1), web)


class Roots(unittest.TestCase):
    def test_ordinary_trees(self):
        same(self, above(TREE, 0), (-1, 2, 0, 2, 1))
        same(self, above(TREE, 1), (2, -1, 1, 2, 1))
        same(self, above(TREE, 4), (2, 4, 1, 2, -1))
        same(self, above(star(4), 0), (-1, 0, 0, 0))
        same(self, above(star(4), 3), (3, 0, 0, -1))
        same(self, from_far(TREE, 0), [4, 1, 3, 2, 0])
        same(self, from_far(TREE, 1), [0, 3, 2, 4, 1])
        same(self, from_far(TREE, 4), [0, 3, 2, 1, 4])
        same(self, from_far(row(5), 2), [0, 4, 1, 3, 2])
        same(self, from_far(star(4), 0), [1, 2, 3, 0])

    def test_edges(self):
        same(self, (above(ONE_PLACE, 0), from_far(ONE_PLACE, 0)), ((-1,), [0]))
        same(self, (above(row(2), 0), from_far(row(2), 0)), ((-1, 0), [1, 0]))
        same(self, (above(row(2), 1), from_far(row(2), 1)), ((1, -1), [0, 1]))
        same(self, (above(row(3), 1), from_far(row(3), 1)), ((1, -1, 1), [0, 2, 1]))
        same(self, (above(row(8), 7), from_far(row(8), 7)), ((1, 2, 3, 4, 5, 6, 7, -1), [0, 1, 2, 3, 4, 5, 6, 7]))
        same(self, from_far(row(8), 0), [7, 6, 5, 4, 3, 2, 1, 0])

    def test_many_trees(self):
        for web in sample_trees():
            for root in range(web[0]):
                ways = ways_by_hand(web, root)
                due = tuple((ways[place] + (-1,))[0] for place in range(web[0]))
                same(self, above(web, root), due, (web, root))
                same(self, from_far(web, root), far_first(web, root), (web, root))


class Steps(unittest.TestCase):
    def test_ordinary_trees(self):
        same(self, steps(TREE, 0), [(4, 1), (3, 2)])
        same(self, steps(TREE, 4), [(0, 2), (4, 4)])
        same(self, steps(row(4), 0), [(3, 2), (0, 0)])
        same(self, steps(row(5), 2), [(0, 1), (4, 3)])
        same(self, steps(star(4), 0), [(1, 0)])
        same(self, steps(star(4), 1), [(2, 0)])
        same(self, tree_pair(TREE, 0), ((1, 2), (3, 4)))
        same(self, tree_pair(TREE, 4), ((2, 4), (0, 4)))
        same(self, tree_pair(row(4), 0), ((0, 2), (0, 3)))
        same(self, tree_pair(crowned(row(4)), 2), ((0, 1, 2, 3), (4, 5, 6, 7)))

    def test_edges(self):
        same(self, (steps(ONE_PLACE, 0), tree_pair(ONE_PLACE, 0)), ([(0, 0)], ((0,), (0,))))
        same(self, (steps(row(2), 0), tree_pair(row(2), 0)), ([(1, 0)], ((0,), (1,))))
        same(self, (steps(row(2), 1), tree_pair(row(2), 1)), ([(0, 1)], ((1,), (0,))))
        same(self, (steps(row(3), 0), tree_pair(row(3), 0)), ([(2, 1)], ((1,), (2,))))
        same(self, (steps(row(8), 0), tree_pair(row(8), 0)), ([(7, 6), (4, 3), (1, 0)], ((0, 3, 6), (1, 4, 7))))

    def test_many_trees(self):
        for web in sample_trees():
            for root in range(web[0]):
                due = steps_by_hand(web, root)
                same(self, steps(web, root), due, (web, root))
                holders = tuple(sorted(holder for _, holder in due))
                places = tuple(sorted(place for place, _ in due))
                same(self, tree_pair(web, root), (holders, places), (web, root))
                self.assertTrue(hold_all(web, holders) and hoods_apart(web, places), (web, root))
                self.assertEqual(len(set(holders)), len(places), (web, root))

    def test_what_is_said_of_the_pair(self):
        for web in sample_trees()[::3]:
            for root in range(web[0]):
                holders, places = tree_pair(web, root)
                same(self, (holds_all(web, holders), is_apart(web, places)), (True, True), (web, root))
                same(self, is_paper(web, holders, places), True, (web, root))
                same(self, (len(holders), len(places)), (fewest(web), most_apart(web)), (web, root))


class ByEnds(unittest.TestCase):
    def test_ordinary_trees(self):
        same(self, by_ends(TREE), 2)
        same(self, by_ends(row(5)), 2)
        same(self, by_ends(row(6)), 2)
        same(self, by_ends(row(7)), 3)
        same(self, by_ends(star(5)), 1)
        same(self, by_ends(crowned(row(4))), 2)

    def test_edges(self):
        same(self, (by_ends(ONE_PLACE), by_ends(row(2)), by_ends(row(3))), (1, 1, 1))
        same(self, (by_ends(row(4)), by_ends(star(4)), by_ends(row(8)), by_ends(star(8))), (2, 1, 3, 1))

    def test_many_trees(self):
        for web in sample_trees():
            told = by_ends(web)
            if web[0] < 3:
                same(self, told, 1, web)
            else:
                number = web[0] + 2 - len(ends(web))
                # the least one whose three times are no less
                same(self, told, [k for k in range(9) if 3 * k >= number][0], web)
            self.assertLessEqual(told, fewest(web), web)


class Lists(unittest.TestCase):
    def test_the_lists_told_are_the_askers_own(self):
        for web in SOME_TREES:
            for root in range(web[0]):
                check_own_list(self, from_far, web, root)
                check_own_list(self, steps, web, root)


class Refused(unittest.TestCase):
    def test_no_web(self):
        for thing in NO_WEBS:
            for function in OF_A_TREE:
                refuse(self, NoWeb, function, thing)
            for function in OF_A_ROOT:
                refuse(self, NoWeb, function, thing, 0)

    def test_no_tree(self):
        for web in NO_TREES + tuple(ring(n) for n in range(3, 9)):
            for function in OF_A_TREE:
                refuse(self, NotTree, function, web)
            for function in OF_A_ROOT:
                refuse(self, NotTree, function, web, 0)

    def test_no_root(self):
        for web in SOME_TREES:
            for thing in no_places(web[0]):
                for function in OF_A_ROOT:
                    refuse(self, NoPlace, function, web, thing)

    def test_no_web_comes_ahead_of_all(self):
        for web, root in itertools.product(NO_WEBS, (None, True, -1, 8, "0", [0], GREATS[0])):
            for function in OF_A_ROOT:
                refuse(self, NoWeb, function, web, root)

    def test_no_tree_comes_ahead_of_no_place(self):
        for web in NO_TREES:
            for root in no_places(web[0]):
                for function in OF_A_ROOT:
                    refuse(self, NotTree, function, web, root)


if __name__ == "__main__":
    unittest.main()
