"""0.1 to 0.4 and the interface over the whole program, and what is said of several files together."""

import importlib
import inspect
import itertools
import unittest

from holdplaces import errors
from holdplaces.apart import fewest_telling, least_marks
from holdplaces.counts import by_size, many_holding, many_parted
from holdplaces.crowds import crowd_family, fewest_crowds, first_crowds, most_untied
from holdplaces.errors import NoWeb, PlaceError
from holdplaces.fewest import all_fewest, all_once, fewest, most_apart
from holdplaces.greedy import greedy
from holdplaces.guards import fewest_guards, first_guards, is_lasting
from holdplaces.holding import holds_all
from holdplaces.kinds import block, ring, row
from holdplaces.lines import (
    ladder_fewest, ring_fewest, ring_holding, ring_many, ring_once, row_fewest, row_holding, row_many, row_once,
)
from holdplaces.shares import worth
from things import GREAT, NO_WEBS, NO_WHOLES, refuse, same, sample_webs

INTERFACE = {
    "webs": "is_web(thing) is_tree(web) hood(web,place) hoods(web) far(web,one,other) pieces(web)",
    "kinds": "row(n) ring(n) full(n) star(n) block(a,b) beside(web,other) crowned(web)",
    "holding": "holders(web,some,place) unheld(web,some) own(web,some,place) spare(web,some) holds_all(web,some)",
    "lean": "leaned(web,some) grown(web,some) is_lean(web,thing) all_lean(web) untied_holders(web)",
    "fewest": "fewest(web) most_apart(web) first_fewest(web) first_apart(web) all_fewest(web) all_once(web) "
              "is_apart(web,some) is_paper(web,some,thing) is_once(web,some) paper_for(web) two_parts(web)",
    "shares": "total(web,shares) worth(web) hood_totals(web,shares) share_holds(web,shares) share_packs(web,shares) "
              "best_shares(web) shares_of(web,some) least_by(web,shares)",
    "greedy": "greedy(web) prices(web) harmonic(number)",
    "trees": "ends(web) above(web,root) from_far(web,root) steps(web,root) tree_pair(web,root) by_ends(web)",
    "lines": "row_fewest(n) ring_fewest(n) ladder_fewest(n) row_many(n) ring_many(n) row_holding(n) ring_holding(n) "
             "row_set(n) ring_set(n) ladder_set(n) row_paper(n) ring_paper(n) ladder_paper(n) row_once(n) ring_once(n)",
    "apart": "marks(web,some) tells_apart(web,thing) tells_others(web,thing) first_alike(web,some) twins(web) "
             "place_by(web,some,mark) fewest_telling(web) first_telling(web) least_marks(n) fewest_others(web) "
             "first_others(web)",
    "guards": "moves(web,some,place) family_of(web,number) is_lasting(web,thing) fewest_guards(web) first_guards(web) "
              "days(web,some) worst_asking(web,some) best_move(web,some,place)",
    "crowds": "is_untied(web,some) are_crowds(web,thing) most_untied(web) fewest_crowds(web) first_untied(web) "
              "first_crowds(web) crowd_family(web,crowds)",
    "counts": "by_size(web) piece_counts(web) multiplied(one,other) many_holding(web) many_parted(web) "
              "parted_with(web,some) with_tie(web,one,other)",
    "texts": "shown(web) shown_some(web,some) read(text) read_some(web,text)",
}
# what is none of all that is handed in behind a web, but where anything may be
JUNK = (None, True, -1, GREAT, "", "x", [[]], (1, 0), {}, (None,), [(1, 0)])


def interface():
    """All functions told, with the names of their arguments."""
    for module, told in INTERFACE.items():
        for form in told.split():
            name, arguments = form.rstrip(")").split("(")
            yield getattr(importlib.import_module(f"holdplaces.{module}"), name), arguments.split(",")


def of_webs():
    return [(function, arguments) for function, arguments in interface() if arguments[0] == "web"]


class Interface(unittest.TestCase):
    def test_everything_is_there(self):
        for function, arguments in interface():
            same(self, list(inspect.signature(function).parameters), arguments, function.__name__)


class Refusals(unittest.TestCase):
    def test_no_web_comes_ahead_of_all(self):
        for function, arguments in of_webs():
            behind = len(arguments) - 1
            for web in NO_WEBS:
                for thing in JUNK[::3]:
                    refuse(self, NoWeb, function, web, *[thing] * behind)

    def test_whatever_is_handed_in_only_a_refusal_or_an_answer_comes(self):
        classes = {kind for _, kind in inspect.getmembers(errors, inspect.isclass)} - {PlaceError}
        for function, arguments in interface():
            for web in (row(1), row(3), ring(5)):
                ahead = [web] if arguments[0] == "web" else []
                for things in itertools.product(JUNK, repeat=len(arguments) - len(ahead)):
                    handed = tuple(ahead) + things
                    before = repr(handed)
                    try:
                        function(*handed)
                    except PlaceError as refusal:
                        self.assertIn(type(refusal), classes, (function.__name__, handed))
                    same(self, repr(handed), before)

    def test_numbers_of_functions_without_a_web(self):
        for function, arguments in interface():
            if arguments[0] in ("n", "a", "number"):
                for thing in NO_WHOLES + (-1, GREAT, -GREAT):
                    refuse(self, errors.NoNumber, function, *[thing] * len(arguments))


class Together(unittest.TestCase):
    def test_the_guards_stand_between(self):
        for web in sample_webs()[::2]:
            number = fewest_guards(web)
            self.assertTrue(max(most_untied(web), fewest(web)) <= number <= fewest_crowds(web), web)
            self.assertTrue(holds_all(web, first_guards(web)), web)
            same(self, is_lasting(web, crowd_family(web, first_crowds(web))), True, web)

    def test_what_holds_all_stands_between(self):
        for web in sample_webs()[::3]:
            top, bottom = worth(web)
            few = fewest(web)
            self.assertTrue(most_apart(web) * bottom <= top <= few * bottom, web)
            self.assertLessEqual(few, len(greedy(web)), web)
            same(self, by_size(web)[:few] + [by_size(web)[few]], [0] * few + [len(all_fewest(web))], web)

    def test_odd_numbers(self):
        for web in sample_webs()[::3]:
            same(self, (many_holding(web) % 2, many_parted(web) % 2, sum(by_size(web))), (1, 1, many_holding(web)), web)

    def test_what_tells_apart_is_no_less_than_marks_need(self):
        for web in sample_webs():
            self.assertGreaterEqual(fewest_telling(web) or 9, least_marks(web[0]), web)

    def check_line(self, web, few, many, holding):
        counts = by_size(web)
        same(self, (fewest(web), counts[few], many_holding(web)), (few, many, holding), web)
        same(self, counts[:few], [0] * few, web)

    def test_rows_rings_and_ladders_as_webs(self):
        for n in range(1, 9):
            self.check_line(row(n), row_fewest(n), row_many(n), row_holding(n))
            same(self, row_once(n), all_once(row(n)), n)
        for n in range(3, 9):
            self.check_line(ring(n), ring_fewest(n), ring_many(n), ring_holding(n))
            same(self, ring_once(n), all_once(ring(n)), n)
        for n in range(1, 5):
            same(self, ladder_fewest(n), fewest(block(n, 2)), n)


if __name__ == "__main__":
    unittest.main()
