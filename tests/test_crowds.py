"""0.2, 0.3, 0.4, 8.5, 8.6 and the interface of crowds.py."""

import itertools
import unittest

from holdplaces import crowds as module
from holdplaces.crowds import (
    are_crowds, crowd_family, fewest_crowds, first_crowds, first_untied, is_untied, most_untied,
)
from holdplaces.errors import NoCrowds, NoPlaces, NoWeb
from holdplaces.fewest import fewest
from holdplaces.guards import fewest_guards, is_lasting
from holdplaces.kinds import beside, block, full, ring, row, star
from things import (
    GREATS, NO_WEBS, NO_WHOLES, WEBS_BETWEEN, WEBS_OF_8, apart_by_ties, check_arguments, check_own_list, deep,
    fewer_webs, no_somes, refuse, same, sample_webs, small_webs, somes_of, webs_of,
)

ONE_PLACE = (1, ())
SOME_WEBS = (ONE_PLACE, row(2), row(4), (4, ()), star(5), beside(ring(3), row(2)), full(8), (8, ()), ring(8))
OF_A_WEB = (most_untied, first_untied, fewest_crowds, first_crowds)


def are_all_tied(web, some):
    return all(pair in web[1] for pair in itertools.combinations(some, 2))


def are_by_hand(web, thing):
    """Of a list of tuples of places."""
    flat = [place for crowd in thing for place in crowd]
    rising = all(list(crowd) == sorted(crowd) for crowd in thing) and thing == sorted(thing)
    return rising and () not in thing and sorted(flat) == list(range(web[0])) and all(
        are_all_tied(web, crowd) for crowd in thing)


def partings(places):
    """All ways to part places, as rising lists of rising tuples."""
    if not places:
        yield []
        return
    first, rest = places[0], places[1:]
    for size in range(len(rest) + 1):
        for others in itertools.combinations(rest, size):
            for parting in partings(tuple(place for place in rest if place not in others)):
                yield [(first,) + others] + parting


def all_crowds(web):
    return [parting for parting in partings(tuple(range(web[0])))
            if all(are_all_tied(web, crowd) for crowd in parting)]


def fewest_by_hand(web):
    """By the fewest that leave nothing of each set of places, lesser ones first."""
    cliques = [set(some) for some in somes_of(web) if some and are_all_tied(web, some)]
    known = {frozenset(): 0}
    for some in somes_of(web):
        if some:
            known[frozenset(some)] = 1 + min(known[frozenset(set(some) - clique)] for clique in cliques
                                             if some[0] in clique)
    return known[frozenset(range(web[0]))]


def family_by_hand(thing):
    return sorted(tuple(sorted(some)) for some in itertools.product(*thing))


class Interface(unittest.TestCase):
    def test_arguments_stand_in_the_order_told(self):
        told = {function.__name__: ["web"] for function in OF_A_WEB}
        told.update({"is_untied": ["web", "some"], "are_crowds": ["web", "thing"], "crowd_family": ["web", "crowds"]})
        check_arguments(self, module, told)


class Untied(unittest.TestCase):
    def test_ordinary_some(self):
        same(self, is_untied(row(4), (0, 2)), True)
        same(self, is_untied(row(4), (0, 1)), False)
        same(self, is_untied(row(4), (0, 2, 3)), False)
        same(self, is_untied(ring(4), (0, 3)), False)
        same(self, is_untied(star(4), (1, 2, 3)), True)
        same(self, is_untied(beside(row(2), row(2)), (1, 2)), True)
        same(self, (most_untied(row(4)), first_untied(row(4))), (2, (0, 2)))
        same(self, (most_untied(ring(5)), first_untied(ring(5))), (2, (0, 2)))
        same(self, (most_untied(star(4)), first_untied(star(4))), (3, (1, 2, 3)))
        same(self, (most_untied(full(3)), first_untied(full(3))), (1, (0,)))
        same(self, (most_untied(block(2, 3)), first_untied(block(2, 3))), (3, (0, 2, 4)))

    def test_edges(self):
        same(self, (is_untied(ONE_PLACE, ()), is_untied(ONE_PLACE, (0,))), (True, True))
        same(self, (is_untied(full(8), ()), is_untied(full(8), (7,)), is_untied(full(8), (0, 7))), (True, True, False))
        same(self, is_untied((8, ()), tuple(range(8))), True)
        same(self, (most_untied(ONE_PLACE), first_untied(ONE_PLACE)), (1, (0,)))
        same(self, (most_untied((8, ())), first_untied((8, ()))), (8, tuple(range(8))))
        same(self, (most_untied(full(8)), first_untied(full(8))), (1, (0,)))

    def test_all_some_of_many_webs(self):
        for web in fewer_webs():
            for some in somes_of(web):
                same(self, is_untied(web, some), apart_by_ties(web, some), (web, some))

    def test_most_of_many_webs(self):
        for web in sample_webs():
            found = sorted(some for some in somes_of(web) if apart_by_ties(web, some))
            most = max(len(some) for some in found)
            same(self, most_untied(web), most, web)
            same(self, first_untied(web), [some for some in found if len(some) == most][0], web)


class AreCrowds(unittest.TestCase):
    def test_ordinary_crowds(self):
        same(self, are_crowds(row(4), [(0, 1), (2, 3)]), True)
        same(self, are_crowds(row(4), [(0,), (1, 2), (3,)]), True)
        same(self, are_crowds(row(4), [(0,), (1,), (2,), (3,)]), True)
        same(self, are_crowds(row(4), [(0, 2), (1, 3)]), False)
        same(self, are_crowds(row(4), [(0, 1, 2), (3,)]), False)
        same(self, are_crowds(full(3), [(0, 1, 2)]), True)
        same(self, are_crowds(full(3), [(0, 2), (1,)]), True)
        same(self, are_crowds((3, ()), [(0,), (1,), (2,)]), True)
        same(self, are_crowds((3, ()), [(0, 1), (2,)]), False)

    def test_edges(self):
        same(self, (are_crowds(ONE_PLACE, [(0,)]), are_crowds(ONE_PLACE, []), are_crowds(ONE_PLACE, [()])),
             (True, False, False))
        same(self, are_crowds(ONE_PLACE, [(), (0,)]), False)
        same(self, are_crowds(full(8), [tuple(range(8))]), True)
        same(self, are_crowds((8, ()), [(place,) for place in range(8)]), True)
        same(self, are_crowds((8, ()), [(place,) for place in range(7)]), False)

    def test_all_lists_of_somes_of_small_webs(self):
        for web in small_webs(3):
            somes = list(somes_of(web))
            for size in range(len(somes) + 1):
                for thing in itertools.combinations(sorted(somes), size):
                    same(self, are_crowds(web, list(thing)), are_by_hand(web, list(thing)), (web, thing))
            for size in range(4):
                for thing in itertools.product(somes, repeat=size):
                    same(self, are_crowds(web, list(thing)), are_by_hand(web, list(thing)), (web, thing))

    def test_all_partings_of_many_webs(self):
        for web in list(small_webs(4)) + list(webs_of(5))[::9] + list(WEBS_BETWEEN):
            for parting in partings(tuple(range(web[0]))):
                same(self, are_crowds(web, parting), are_by_hand(web, parting), (web, parting))

    def check_not(self, web, thing):
        same(self, are_crowds(web, thing), False, (web, thing))
        refuse(self, NoCrowds, crowd_family, web, thing)

    def test_crowds_changed(self):
        for web in list(small_webs(4)) + list(WEBS_BETWEEN) + list(WEBS_OF_8):
            for thing in all_crowds(web)[:6] + [first_crowds(web)]:
                same(self, are_crowds(web, thing), True, (web, thing))
                for at, crowd in enumerate(thing):
                    ahead, behind = thing[:at], thing[at + 1:]
                    self.check_not(web, ahead + behind)
                    self.check_not(web, ahead + [crowd, crowd] + behind)
                    self.check_not(web, ahead + [list(crowd)] + behind)
                    self.check_not(web, ahead + [crowd[1:]] + behind)
                    self.check_not(web, ahead + [crowd + crowd[-1:]] + behind)
                    self.check_not(web, ahead + [crowd, ()] + behind)
                    self.check_not(web, ahead + [(), crowd] + behind)
                    self.check_not(web, ahead + [crowd + (web[0],)] + behind)
                    if len(crowd) > 1:
                        self.check_not(web, ahead + [crowd[::-1]] + behind)
                    for place in range(web[0]):
                        # moved to this crowd, which may make crowds again
                        moved = [tuple(sorted((set(one) - {place}) | ({place} if one == crowd else set())))
                                 for one in thing]
                        same(self, are_crowds(web, moved), are_by_hand(web, moved), (web, moved))
                if len(thing) > 1:
                    self.check_not(web, thing[::-1])
                self.check_not(web, tuple(thing))
                self.check_not(web, [thing])
                self.check_not(web, {crowd: True for crowd in thing})
                self.check_not(web, thing + [(web[0],)])

    def test_of_anything(self):
        for web in SOME_WEBS:
            alone = [(place,) for place in range(web[0])]
            for thing in no_somes(web[0]):
                before = repr(thing)
                self.check_not(web, thing)
                self.check_not(web, [thing])
                self.check_not(web, [thing] + alone)
                self.check_not(web, alone + [thing])
                self.check_not(web, alone[:-1] + [thing])
                same(self, thing, eval(before))
            for thing in NO_WHOLES + GREATS + (0, web[0], tuple(alone), str(alone), [alone], {0: alone}, [[0]],
                                               deep(lambda inner: [inner], 9)):
                self.check_not(web, thing)

    def test_truths_are_no_places(self):
        for thing in ([(False,), (1,)], [(0,), (True,)], [(False, True)], [(False, 1)]):
            self.check_not(row(2), thing)


class FewestCrowds(unittest.TestCase):
    def test_ordinary_webs(self):
        same(self, (fewest_crowds(row(4)), first_crowds(row(4))), (2, [(0, 1), (2, 3)]))
        same(self, fewest_crowds(ring(5)), 3)
        same(self, fewest_crowds(star(5)), 4)
        same(self, (fewest_crowds(full(4)), first_crowds(full(4))), (1, [(0, 1, 2, 3)]))
        same(self, (fewest_crowds((3, ())), first_crowds((3, ()))), (3, [(0,), (1,), (2,)]))
        same(self, (fewest_crowds(beside(full(3), row(2))), first_crowds(beside(full(3), row(2)))),
             (2, [(0, 1, 2), (3, 4)]))

    def test_edges(self):
        same(self, (fewest_crowds(ONE_PLACE), first_crowds(ONE_PLACE)), (1, [(0,)]))
        same(self, (fewest_crowds((8, ())), first_crowds((8, ()))), (8, [(place,) for place in range(8)]))
        same(self, (fewest_crowds(full(8)), first_crowds(full(8))), (1, [tuple(range(8))]))

    def test_many_webs(self):
        for web in sample_webs():
            due = fewest_by_hand(web)
            told = first_crowds(web)
            same(self, fewest_crowds(web), due, web)
            self.assertIs(type(told), list)
            self.assertTrue(all(type(crowd) is tuple for crowd in told) and are_by_hand(web, told), (web, told))
            same(self, are_crowds(web, told), True, web)
            same(self, len(told), due, web)

    def test_between_them_stand_the_guards(self):
        for web in sample_webs():
            number = fewest_guards(web)
            self.assertTrue(most_untied(web) <= number <= fewest_crowds(web), web)
            self.assertLessEqual(fewest(web), number, web)


class CrowdFamily(unittest.TestCase):
    def test_ordinary_crowds(self):
        same(self, crowd_family(row(4), [(0, 1), (2, 3)]), [(0, 2), (0, 3), (1, 2), (1, 3)])
        same(self, crowd_family(row(4), [(0,), (1, 2), (3,)]), [(0, 1, 3), (0, 2, 3)])
        same(self, crowd_family(full(3), [(0, 2), (1,)]), [(0, 1), (1, 2)])
        # one place of each, rising though it was not met so
        same(self, crowd_family(ring(4), [(0, 3), (1, 2)]), [(0, 1), (0, 2), (1, 3), (2, 3)])

    def test_edges(self):
        same(self, crowd_family(ONE_PLACE, [(0,)]), [(0,)])
        same(self, crowd_family((8, ()), [(place,) for place in range(8)]), [tuple(range(8))])
        same(self, crowd_family(full(8), [tuple(range(8))]), [(place,) for place in range(8)])
        same(self, len(crowd_family(block(2, 4), [(0, 4), (1, 5), (2, 6), (3, 7)])), 16)

    def test_all_crowds_of_many_webs(self):
        for web in list(small_webs(4)) + list(webs_of(5))[::9]:
            for thing in all_crowds(web):
                before = repr(thing)
                told = crowd_family(web, thing)
                same(self, told, family_by_hand(thing), (web, thing))
                same(self, is_lasting(web, told), True, (web, thing))
                same(self, repr(thing), before)

    def test_crowds_of_greater_webs(self):
        for web in WEBS_BETWEEN + WEBS_OF_8:
            for thing in all_crowds(web)[::7] + [first_crowds(web)]:
                told = crowd_family(web, thing)
                same(self, told, family_by_hand(thing), (web, thing))
                same(self, is_lasting(web, told), True, (web, thing))

    def test_the_lists_told_are_the_askers_own(self):
        for web in SOME_WEBS:
            check_own_list(self, first_crowds, web)
            check_own_list(self, crowd_family, web, first_crowds(web))
            check_own_list(self, crowd_family, web, [(place,) for place in range(web[0])])


class Refused(unittest.TestCase):
    def test_no_web(self):
        for thing in NO_WEBS:
            for function in OF_A_WEB:
                refuse(self, NoWeb, function, thing)
            refuse(self, NoWeb, is_untied, thing, ())
            for function in (are_crowds, crowd_family):
                refuse(self, NoWeb, function, thing, [(0,)])

    def test_no_some(self):
        for web in SOME_WEBS:
            for thing in no_somes(web[0]):
                refuse(self, NoPlaces, is_untied, web, thing)

    def test_no_web_comes_ahead_of_all(self):
        for web, thing in itertools.product(NO_WEBS, (None, [0], (1, 0), (True,), "0", GREATS[0], [], [()], {})):
            for function in (is_untied, are_crowds, crowd_family):
                refuse(self, NoWeb, function, web, thing)


if __name__ == "__main__":
    unittest.main()
