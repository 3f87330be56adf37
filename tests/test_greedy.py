"""0.3, 0.4, 4.5 and the interface of greedy.py."""

import unittest
from fractions import Fraction

from holdplaces import greedy as module
from holdplaces.errors import NoNumber, NoWeb
from holdplaces.greedy import greedy, harmonic, prices
from holdplaces.kinds import beside, crowned, full, ring, row, star
from holdplaces.shares import hood_totals, total, worth
from things import (
    GREATS, NO_WEBS, NO_WHOLES, WEBS_OF_8, check_arguments, check_own_list, hold_all, reach, refuse, same, sample_webs,
    webs_of,
)


def taken_by_hand(web):
    """The places taken, and the price of each place, by sets of places that nothing taken holds."""
    held = reach(web)
    left = set(range(web[0]))
    taken, price = [], {}
    while left:
        place = min(held, key=lambda one: (-len(held[one] & left), one))
        taken.append(place)
        price.update({one: (1, len(held[place] & left)) for one in held[place] & left})
        left -= held[place]
    return taken, tuple(price[place] for place in range(web[0]))


class Interface(unittest.TestCase):
    def test_arguments_stand_in_the_order_told(self):
        check_arguments(self, module, {"greedy": ["web"], "prices": ["web"], "harmonic": ["number"]})


class Greedy(unittest.TestCase):
    def test_ordinary_webs(self):
        for web, taken, price in (
            (row(3), [1], ((1, 3),) * 3),
            # the second one taken is held already
            (row(4), [1, 2], ((1, 3), (1, 3), (1, 3), (1, 1))),
            (row(5), [1, 3], ((1, 3), (1, 3), (1, 3), (1, 2), (1, 2))),
            (ring(4), [0, 1], ((1, 3), (1, 3), (1, 1), (1, 3))),
            (star(4), [0], ((1, 4),) * 4),
            # what holds most comes ahead of what is least
            (beside(row(2), star(4)), [2, 0], ((1, 2), (1, 2)) + ((1, 4),) * 4),
            (beside((1, ()), full(3)), [1, 0], ((1, 1),) + ((1, 3),) * 3),
            # what still waits counts, not what is in the hood
            ((6, ((0, 1), (0, 2), (0, 3), (1, 2), (4, 5))), [0, 4], ((1, 4),) * 4 + ((1, 2),) * 2),
        ):
            same(self, greedy(web), taken, web)
            same(self, prices(web), price, web)

    def test_edges(self):
        same(self, (greedy((1, ())), prices((1, ()))), ([0], ((1, 1),)))
        same(self, (greedy(row(2)), prices(row(2))), ([0], ((1, 2), (1, 2))))
        same(self, (greedy((2, ())), prices((2, ()))), ([0, 1], ((1, 1), (1, 1))))
        same(self, (greedy((8, ())), prices((8, ()))), (list(range(8)), ((1, 1),) * 8))
        same(self, (greedy(full(8)), prices(full(8))), ([0], ((1, 8),) * 8))
        same(self, greedy(WEBS_OF_8[5]), [7])

    def test_further_webs(self):
        same(self, greedy(crowned(star(4))), [0, 1, 2, 3])
        same(self, greedy(ring(8)), [0, 3, 5])
        same(self, greedy(row(7)), [1, 4, 5])
        # a row whose middle is 0: 1 and 2 are fewest, but are not what greedy takes
        same(self, greedy((5, ((0, 1), (0, 2), (1, 3), (2, 4)))), [0, 1, 2])

    def test_many_webs(self):
        for web in sample_webs() + list(webs_of(6))[::31]:
            taken, price = taken_by_hand(web)
            same(self, greedy(web), taken, web)
            same(self, prices(web), price, web)
            self.assertTrue(hold_all(web, taken), web)

    def test_what_is_said_of_prices(self):
        for web in sample_webs():
            price = prices(web)
            same(self, total(web, price), (len(greedy(web)), 1), web)
            sizes = [len(near) for _, near in sorted(reach(web).items())]
            for size, part in zip(sizes, hood_totals(web, price)):
                self.assertLessEqual(Fraction(*part), Fraction(*harmonic(size)), web)
            most = Fraction(*worth(web)) * Fraction(*harmonic(max(sizes)))
            self.assertLessEqual(len(greedy(web)), most, web)

    def test_the_list_told_is_the_askers_own(self):
        for web in ((1, ()), row(4), full(8), (8, ()), beside(row(2), star(4))):
            check_own_list(self, greedy, web)

    def test_refused(self):
        for thing in NO_WEBS:
            refuse(self, NoWeb, greedy, thing)
            refuse(self, NoWeb, prices, thing)


class Harmonic(unittest.TestCase):
    def test_each_number(self):
        for number, due in enumerate((
            (0, 1), (1, 1), (3, 2), (11, 6), (25, 12), (137, 60), (49, 20), (363, 140), (761, 280),
        )):
            same(self, harmonic(number), due, number)

    def test_refused(self):
        for thing in NO_WHOLES + GREATS + tuple(range(-9, 0)) + tuple(range(9, 20)):
            refuse(self, NoNumber, harmonic, thing)


if __name__ == "__main__":
    unittest.main()
