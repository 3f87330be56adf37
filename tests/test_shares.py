"""0.3, 0.4, 4.1 to 4.4 and the interface of shares.py."""

import itertools
import math
import unittest
from fractions import Fraction

from holdplaces import shares as module
from holdplaces.errors import NoPlaces, NoShares, NoWeb
from holdplaces.fewest import fewest, most_apart
from holdplaces.kinds import beside, block, crowned, full, ring, row, star
from holdplaces.shares import (
    best_shares, hood_totals, least_by, share_holds, share_packs, shares_of, total, worth,
)
from things import (
    GREAT, GREATS, NO_WEBS, WEBS_OF_8, check_arguments, fewer_webs, hold_all, hoods_apart, no_shares, no_somes, reach,
    refuse, same, sample_webs, small_webs, somes_of, webs_of,
)

NOTHING, ONE, HALF, THIRD = (0, 1), (1, 1), (1, 2), (1, 3)
PARTS = (THIRD, NOTHING, HALF, (1, 4), ONE, (2, 3), (1, 6), (7, 5), (3, 8), (GREAT, 1), (1, GREAT), (10 ** 30, GREAT))
OF_SHARES = (total, hood_totals, share_holds, share_packs, least_by)
SOME_WEBS = (row(1), row(2), row(4), (3, ()), star(5), beside(ring(3), row(2)), full(8))


def as_number(part):
    return Fraction(*part)


def as_pair(number):
    return (number.numerator, number.denominator)


def totals_by_hand(web, shares):
    held = reach(web)
    return [sum(as_number(shares[other]) for other in held[place]) for place in range(web[0])]


def packs(web, shares):
    return all(number <= 1 for number in totals_by_hand(web, shares))


def holds(web, shares):
    return all(number >= 1 for number in totals_by_hand(web, shares))


def sum_of(shares):
    return sum(as_number(part) for part in shares)


def sample_shares(many):
    """Shares with equal parts, and shares of parts that go round through PARTS from each start."""
    yield from ((part,) * many for part in PARTS + ((1, 5), (1, 7), (1, 8)))
    for start in range(len(PARTS)):
        yield tuple(PARTS[(start + step) % len(PARTS)] for step in range(many))


def webs_with_shares():
    for web in small_webs(3):
        for shares in itertools.product((NOTHING, THIRD, HALF, (2, 3), ONE), repeat=web[0]):
            yield web, shares
    for web in list(webs_of(4))[::3] + fewer_webs()[-30:]:
        for shares in sample_shares(web[0]):
            yield web, shares


class Interface(unittest.TestCase):
    def test_arguments_stand_in_the_order_told(self):
        told = {function.__name__: ["web", "shares"] for function in OF_SHARES}
        told.update({"worth": ["web"], "best_shares": ["web"], "shares_of": ["web", "some"]})
        check_arguments(self, module, told)


class Totals(unittest.TestCase):
    def test_ordinary_shares(self):
        same(self, total(row(3), (HALF, THIRD, (1, 6))), (1, 1))
        same(self, total(row(3), (HALF, HALF, HALF)), (3, 2))
        same(self, total(row(2), (NOTHING, (2, 3))), (2, 3))
        same(self, hood_totals(row(3), (HALF, THIRD, (1, 6))), ((5, 6), (1, 1), (1, 2)))
        same(self, hood_totals(star(3), (ONE, HALF, NOTHING)), ((3, 2), (3, 2), (1, 1)))
        same(self, hood_totals((2, ()), (NOTHING, (5, 3))), ((0, 1), (5, 3)))
        same(self, hood_totals(ring(4), (THIRD,) * 4), (ONE,) * 4)

    def test_edges(self):
        same(self, (total((1, ()), (NOTHING,)), hood_totals((1, ()), (NOTHING,))), ((0, 1), ((0, 1),)))
        same(self, (total((1, ()), ((7, 2),)), hood_totals((1, ()), ((7, 2),))), ((7, 2), ((7, 2),)))
        same(self, (total(full(8), (NOTHING,) * 8), hood_totals(full(8), (NOTHING,) * 8)), ((0, 1), ((0, 1),) * 8))
        same(self, total(row(8), ((1, 8),) * 8), (1, 1))
        same(self, total(row(2), ((GREAT, 1), (1, GREAT))), (GREAT * GREAT + 1, GREAT))

    def test_many_webs(self):
        for web, shares in webs_with_shares():
            same(self, total(web, shares), as_pair(sum_of(shares)), (web, shares))
            due = tuple(as_pair(number) for number in totals_by_hand(web, shares))
            same(self, hood_totals(web, shares), due, (web, shares))


class HoldAndPack(unittest.TestCase):
    def test_ordinary_shares(self):
        for web, shares, does_hold, does_pack in (
            (row(3), (NOTHING, ONE, NOTHING), True, True), (row(3), (HALF, HALF, HALF), True, False),
            (row(3), (HALF, NOTHING, HALF), False, True), (row(3), (ONE, NOTHING, HALF), False, False),
            (ring(4), (THIRD,) * 4, True, True), (ring(4), (HALF,) * 4, True, False),
            (ring(4), ((1, 4),) * 4, False, True), ((2, ()), (ONE, ONE), True, True),
            ((2, ()), (ONE, (GREAT, GREAT - 1)), True, False), ((2, ()), (ONE, (GREAT - 1, GREAT)), False, True),
            ((1, ()), (ONE,), True, True), ((1, ()), (NOTHING,), False, True), ((1, ()), ((2, 1),), True, False),
            (full(8), ((1, 8),) * 8, True, True), (full(8), ((1, 7),) * 8, True, False),
            (full(8), ((1, 9),) * 8, False, True),
        ):
            same(self, share_holds(web, shares), does_hold, (web, shares))
            same(self, share_packs(web, shares), does_pack, (web, shares))

    def test_many_webs(self):
        for web, shares in webs_with_shares():
            same(self, share_holds(web, shares), holds(web, shares), (web, shares))
            same(self, share_packs(web, shares), packs(web, shares), (web, shares))

    def test_what_packs_has_no_greater_total_than_what_holds_all(self):
        for web in list(small_webs(3)) + list(SOME_WEBS):
            all_shares = list(sample_shares(web[0]))
            packing = [as_number(total(web, shares)) for shares in all_shares if share_packs(web, shares)]
            holding = [as_number(total(web, shares)) for shares in all_shares if share_holds(web, shares)]
            self.assertLessEqual(max(packing), as_number(worth(web)), web)
            self.assertLessEqual(as_number(worth(web)), min(holding), web)


class Best(unittest.TestCase):
    def check(self, web):
        told = best_shares(web)
        self.assertIs(type(told), tuple)
        value, packing, holding = told
        for shares in (packing, holding):
            self.assertIs(type(shares), tuple)
            self.assertEqual(len(shares), web[0])
            # such pairs are in lowest terms, with nothing below 0
            same(self, shares, tuple(as_pair(as_number(part)) for part in shares), web)
            self.assertTrue(all(top >= 0 for top, bottom in shares), web)
            same(self, value, as_pair(sum_of(shares)), web)
        self.assertTrue(packs(web, packing), web)
        self.assertTrue(holds(web, holding), web)
        same(self, (share_packs(web, packing), share_holds(web, holding)), (True, True), web)
        same(self, (total(web, packing), total(web, holding)), (value, value), web)
        same(self, worth(web), value, web)
        return value

    def test_webs_of_known_worth(self):
        for n in range(1, 9):
            same(self, self.check(full(n)), (1, 1))
            same(self, self.check(star(n)), (1, 1))
            same(self, self.check((n, ())), (n, 1))
            same(self, self.check(row(n)), ((n + 2) // 3, 1))
        for n in range(3, 9):
            same(self, self.check(ring(n)), as_pair(Fraction(n, 3)))
        same(self, self.check(beside(ring(4), ring(4))), (8, 3))
        same(self, self.check(beside(ring(5), (1, ()))), (8, 3))
        same(self, self.check(crowned(ring(4))), (4, 1))
        same(self, self.check((5, ((0, 3), (0, 4), (1, 3), (1, 4), (2, 3), (2, 4)))), (7, 5))

    def test_many_webs(self):
        for web in sample_webs() + list(webs_of(6))[::97] + [block(2, 4), block(4, 2), block(3, 2)]:
            value = as_number(self.check(web))
            self.assertLessEqual(most_apart(web), value, web)
            self.assertLessEqual(value, fewest(web), web)

    def test_what_is_told_is_told_the_same_again(self):
        for web in SOME_WEBS:
            same(self, best_shares(web), best_shares(web))


class SharesOfSome(unittest.TestCase):
    def test_ordinary_some(self):
        same(self, shares_of(row(3), (1,)), (NOTHING, ONE, NOTHING))
        same(self, shares_of(row(3), ()), (NOTHING, NOTHING, NOTHING))
        same(self, shares_of(row(3), (0, 1, 2)), (ONE, ONE, ONE))
        same(self, (shares_of((1, ()), ()), shares_of((1, ()), (0,))), ((NOTHING,), (ONE,)))
        same(self, shares_of(full(8), (0, 7)), (ONE,) + (NOTHING,) * 6 + (ONE,))

    def test_all_some_of_many_webs(self):
        for web in list(small_webs(4)) + list(WEBS_OF_8[2:9:3]):
            for some in somes_of(web):
                shares = shares_of(web, some)
                same(self, shares, tuple((int(place in some), 1) for place in range(web[0])), (web, some))
                same(self, total(web, shares), (len(some), 1), (web, some))
                same(self, share_holds(web, shares), hold_all(web, some), (web, some))
                same(self, share_packs(web, shares), hoods_apart(web, some), (web, some))


class LeastBy(unittest.TestCase):
    def test_ordinary_shares(self):
        same(self, least_by(ring(4), (THIRD,) * 4), 2)
        same(self, least_by(ring(6), (THIRD,) * 6), 2)
        same(self, least_by(ring(8), (THIRD,) * 8), 3)
        same(self, least_by(ring(4), ((1, 4),) * 4), 1)
        same(self, least_by(row(4), (ONE, NOTHING, NOTHING, ONE)), 2)
        same(self, least_by(row(4), (ONE, NOTHING, NOTHING, (1, GREAT))), 2)

    def test_edges(self):
        same(self, least_by((1, ()), (NOTHING,)), 0)
        same(self, least_by((1, ()), ((1, GREAT),)), 1)
        same(self, least_by((1, ()), (ONE,)), 1)
        same(self, least_by((8, ()), (ONE,) * 8), 8)
        same(self, least_by((8, ()), ((1, 8),) * 8), 1)
        same(self, least_by(full(8), (NOTHING,) * 8), 0)

    def test_many_webs(self):
        for web, shares in webs_with_shares():
            if packs(web, shares):
                told = least_by(web, shares)
                same(self, told, math.ceil(sum_of(shares)), (web, shares))
                # the total itself is no more than worth, so rounded up it is no more than worth rounded up
                self.assertLessEqual(told, math.ceil(as_number(worth(web))), (web, shares))
                self.assertLessEqual(told, fewest(web), (web, shares))
            else:
                with self.assertRaises(NoShares):
                    least_by(web, shares)

    def test_best_shares_show_how_many_are_needed(self):
        for web in fewer_webs():
            value, packing, _ = best_shares(web)
            same(self, least_by(web, packing), math.ceil(as_number(value)), web)

    def test_shares_that_do_not_pack(self):
        refuse(self, NoShares, least_by, row(2), (ONE, (1, GREAT)))
        refuse(self, NoShares, least_by, ring(4), (HALF,) * 4)
        refuse(self, NoShares, least_by, (1, ()), ((2, 1),))
        refuse(self, NoShares, least_by, (2, ()), (NOTHING, (GREAT, GREAT - 1)))


class Refused(unittest.TestCase):
    def test_no_web(self):
        for thing in NO_WEBS:
            for function in OF_SHARES:
                refuse(self, NoWeb, function, thing, (ONE,))
            refuse(self, NoWeb, shares_of, thing, (0,))
            refuse(self, NoWeb, worth, thing)
            refuse(self, NoWeb, best_shares, thing)

    def test_no_shares(self):
        for web in SOME_WEBS:
            for thing in no_shares(web[0]):
                for function in OF_SHARES:
                    refuse(self, NoShares, function, web, thing)

    def test_too_few_and_too_many(self):
        for web in SOME_WEBS:
            for many in range(12):
                if many != web[0]:
                    for function in OF_SHARES:
                        refuse(self, NoShares, function, web, (NOTHING,) * many)

    def test_no_some(self):
        for web in SOME_WEBS:
            for thing in no_somes(web[0]):
                refuse(self, NoPlaces, shares_of, web, thing)

    def test_no_web_comes_ahead_of_all(self):
        for web, thing in itertools.product(NO_WEBS, (None, True, [ONE], ((2, 2),), ((1, 0),), "1", GREATS[0], ())):
            for function in OF_SHARES:
                refuse(self, NoWeb, function, web, thing)
            refuse(self, NoWeb, shares_of, web, thing)


if __name__ == "__main__":
    unittest.main()
