"""0.3, 0.4, 1.3, 1.4 and the interface of kinds.py."""

import itertools
import unittest

from holdplaces import kinds
from holdplaces.errors import NoNumber, NoWeb, TooGreat
from holdplaces.kinds import beside, block, crowned, full, ring, row, star
from holdplaces.webs import is_web
from things import GREATS, NO_WEBS, NO_WHOLES, WEBS_OF_8, check_arguments, refuse, small_webs, webs_of

NO_NUMBERS = NO_WHOLES + GREATS


class Interface(unittest.TestCase):
    def test_arguments_stand_in_the_order_told(self):
        check_arguments(self, kinds, {
            "row": ["n"], "ring": ["n"], "full": ["n"], "star": ["n"], "block": ["a", "b"],
            "beside": ["web", "other"], "crowned": ["web"],
        })


class OneNumber(unittest.TestCase):
    def check(self, kind, least, are_tied):
        for n in range(least, 9):
            due = (n, tuple((a, b) for a, b in itertools.combinations(range(n), 2) if are_tied(n, a, b)))
            self.assertEqual(repr(kind(n)), repr(due))
            self.assertTrue(is_web(kind(n)))
        for n in NO_NUMBERS + tuple(range(-3, least)) + tuple(range(9, 20)):
            refuse(self, NoNumber, kind, n)

    def test_row(self):
        self.assertEqual(row(1), (1, ()))
        self.assertEqual(row(4), (4, ((0, 1), (1, 2), (2, 3))))
        self.check(row, 1, lambda n, a, b: b == a + 1)

    def test_ring(self):
        self.assertEqual(ring(3), (3, ((0, 1), (0, 2), (1, 2))))
        self.assertEqual(ring(4), (4, ((0, 1), (0, 3), (1, 2), (2, 3))))
        self.check(ring, 3, lambda n, a, b: (b - a) % n in (1, n - 1))

    def test_full(self):
        self.assertEqual(full(1), (1, ()))
        self.assertEqual(full(3), (3, ((0, 1), (0, 2), (1, 2))))
        self.check(full, 1, lambda n, a, b: True)

    def test_star(self):
        self.assertEqual(star(1), (1, ()))
        self.assertEqual(star(2), (2, ((0, 1),)))
        self.assertEqual(star(4), (4, ((0, 1), (0, 2), (0, 3))))
        self.check(star, 1, lambda n, a, b: a == 0)


class Block(unittest.TestCase):
    def test_ordinary_blocks(self):
        self.assertEqual(block(1, 1), (1, ()))
        self.assertEqual(block(2, 2), (4, ((0, 1), (0, 2), (1, 3), (2, 3))))
        self.assertEqual(block(2, 3), (6, ((0, 1), (0, 3), (1, 2), (1, 4), (2, 5), (3, 4), (4, 5))))
        self.assertEqual(block(3, 2), (6, ((0, 1), (0, 2), (1, 3), (2, 3), (2, 4), (3, 5), (4, 5))))

    def test_blocks_of_just_8_places(self):
        self.assertEqual(block(1, 8), (8, ((0, 1), (1, 2), (2, 3), (3, 4), (4, 5), (5, 6), (6, 7))))
        self.assertEqual(block(8, 1), block(1, 8))
        self.assertEqual(block(2, 4), (8, ((0, 1), (0, 4), (1, 2), (1, 5), (2, 3), (2, 6), (3, 7),
                                           (4, 5), (5, 6), (6, 7))))
        self.assertEqual(block(4, 2), (8, ((0, 1), (0, 2), (1, 3), (2, 3), (2, 4), (3, 5), (4, 5),
                                           (4, 6), (5, 7), (6, 7))))

    def test_each_two_numbers(self):
        for a, b in itertools.product(range(-2, 12), repeat=2):
            if a < 1 or b < 1 or a * b > 8:
                refuse(self, NoNumber, block, a, b)
                continue
            spots = [(number // b, number % b) for number in range(a * b)]
            # two spots are neighbours where they are one step off in one direction
            ties = [(one, other) for one, other in itertools.combinations(range(a * b), 2)
                    if abs(spots[one][0] - spots[other][0]) + abs(spots[one][1] - spots[other][1]) == 1]
            self.assertEqual(repr(block(a, b)), repr((a * b, tuple(ties))))

    def test_no_numbers(self):
        for thing in NO_NUMBERS:
            for number in (1, 3, 8):
                refuse(self, NoNumber, block, thing, number)
                refuse(self, NoNumber, block, number, thing)
            for other in (None, True, 0, 9, "1", thing):
                refuse(self, NoNumber, block, thing, other)


class Beside(unittest.TestCase):
    def test_ordinary_webs(self):
        self.assertEqual(beside((1, ()), (1, ())), (2, ()))
        self.assertEqual(beside(row(2), row(3)), (5, ((0, 1), (2, 3), (3, 4))))
        self.assertEqual(beside(row(3), row(2)), (5, ((0, 1), (1, 2), (3, 4))))
        self.assertEqual(beside((2, ()), ring(3)), (5, ((2, 3), (2, 4), (3, 4))))

    def test_all_pairs_of_small_webs(self):
        for web, other in itertools.product(list(small_webs(4)), repeat=2):
            first, second = web[0], other[0]
            ties = [(a, b) for a, b in itertools.combinations(range(first + second), 2)
                    if (a, b) in web[1] or (a >= first and (a - first, b - first) in other[1])]
            self.assertEqual(repr(beside(web, other)), repr((first + second, tuple(ties))))

    def test_just_8_and_just_9_places(self):
        for first in range(1, 8):
            both = beside(full(first), star(8 - first))
            self.assertEqual(both[0], 8)
            self.assertTrue(is_web(both))
        for first in range(1, 9):
            self.check_too_great(9, beside, full(first), star(9 - first))

    def test_more_places(self):
        self.check_too_great(16, beside, full(8), full(8))
        self.check_too_great(10, beside, (2, ()), (8, ()))

    def check_too_great(self, many, function, *handed):
        refusal = refuse(self, TooGreat, function, *handed)
        self.assertEqual((refusal.many, refusal.most), (many, 8))

    def test_refused(self):
        for thing in NO_WEBS:
            refuse(self, NoWeb, beside, thing, row(2))
            refuse(self, NoWeb, beside, row(2), thing)
            refuse(self, NoWeb, beside, thing, thing)

    def test_no_web_comes_ahead_of_too_great(self):
        refuse(self, NoWeb, beside, (9, ()), row(1))
        refuse(self, NoWeb, beside, row(1), (9, ()))
        for thing in NO_WEBS:
            refuse(self, NoWeb, beside, full(8), thing)
            refuse(self, NoWeb, beside, thing, full(8))


class Crowned(unittest.TestCase):
    def test_ordinary_webs(self):
        self.assertEqual(crowned((1, ())), (2, ((0, 1),)))
        self.assertEqual(crowned((2, ())), (4, ((0, 2), (1, 3))))
        self.assertEqual(crowned(row(3)), (6, ((0, 1), (0, 3), (1, 2), (1, 4), (2, 5))))
        self.assertEqual(crowned(ring(3)), (6, ((0, 1), (0, 2), (0, 3), (1, 2), (1, 4), (2, 5))))

    def test_all_webs_up_to_just_8_places(self):
        for web in small_webs(4):
            many = web[0]
            ties = [(a, b) for a, b in itertools.combinations(range(2 * many), 2)
                    if (a, b) in web[1] or b == a + many]
            self.assertEqual(repr(crowned(web)), repr((2 * many, tuple(ties))))

    def test_more_than_8_places(self):
        for web in list(webs_of(5)) + list(WEBS_OF_8) + [row(6), star(7)]:
            refusal = refuse(self, TooGreat, crowned, web)
            self.assertEqual((refusal.many, refusal.most), (2 * web[0], 8))

    def test_refused(self):
        for thing in NO_WEBS:
            refuse(self, NoWeb, crowned, thing)


if __name__ == "__main__":
    unittest.main()
