"""0.3, 0.4, 10.2 to 10.4 and the interface of desk.py."""

import inspect
import itertools
import re
import unittest

from holdplaces.apart import first_telling, twins
from holdplaces.counts import by_size
from holdplaces.desk import Desk
from holdplaces.errors import NoDeed, NoLine, NoNumber, NoPlace, NotAll, NoText, PlaceError
from holdplaces.fewest import first_apart, first_fewest
from holdplaces.guards import first_guards
from holdplaces.shares import worth
from things import (
    NO_TEXTS, WEBS_BETWEEN, WEBS_OF_8, held_by, left_out_by_hand, less, reach, same, small_webs, text_of_some,
    text_of_web, web_by_hand,
)

PLAIN_QUESTIONS = (
    "web", "some", "unheld", "spare", "fewest", "apart", "worth", "telling", "counts", "guards",
)
NUMBER = "(0|[1-9][0-9]*)"
LINES = tuple(re.compile(form) for form in (
    "web", f"(tie|cut) {NUMBER} {NUMBER}", f"(put|take|mark) {NUMBER}", "lean|back", "|".join(PLAIN_QUESTIONS),
))
# a row of four, 1 and 2 of it
ROW = ("web 4 0-1 1-2 2-3", "put 1", "put 2")


def told_desk(*lines):
    desk = Desk()
    for line in lines:
        desk.say(line)
    return desk


def picture(desk):
    """All that a desk tells without a place, and the marks of its places."""
    marks = [f"mark {place}" for place in range(int(desk.say("web")[0]))]
    return [desk.say(line) for line in PLAIN_QUESTIONS + tuple(marks)]


def light_picture(desk):
    return [desk.say("web"), desk.say("some")]


def way_back(desk):
    """What a desk was ahead of each deed that stands; the desk is back at its start then."""
    told = []
    while True:
        told.append(light_picture(desk))
        try:
            desk.say("back")
        except NoDeed:
            return told


class Model:
    """What is due of a desk, reckoned in another way: by sets, and by forms of lines."""

    def __init__(self):
        self.states = [((1, ()), ())]

    def due(self, line):
        """The answer, or the class of the refusal and what its fields are."""
        if not isinstance(line, str):
            return NoLine, {}
        if line[:4] == "web ":
            web = web_by_hand(line[4:])
            return (NoText, {}) if web is None else self.done(web, ())
        if not any(form.fullmatch(line) for form in LINES):
            return NoLine, {}
        word, *numbers = line.split(" ")
        web, some = self.states[-1]
        numbers = [int(number) for number in numbers]
        if any(number >= web[0] for number in numbers):
            return NoPlace, {}
        if len(numbers) == 2:
            return self.due_of_two(word, numbers)
        if word in ("put", "take"):
            if (numbers[0] in some) == (word == "put"):
                return NoDeed, {}
            return self.done(web, tuple(sorted(set(some) ^ set(numbers))))
        if word == "lean":
            free = sorted(set(range(web[0])) - held_by(web, some))
            return (NotAll, {"place": free[0]}) if free else self.done(web, left_out_by_hand(web, some))
        if word == "back":
            return self.due_back()
        return self.due_of_question(word, numbers)

    def due_of_two(self, word, numbers):
        web, some = self.states[-1]
        tie = tuple(sorted(numbers))
        if tie[0] == tie[1]:
            return NoNumber, {}
        if (tie in web[1]) == (word == "tie"):
            return NoDeed, {}
        return self.done((web[0], tuple(sorted(set(web[1]) ^ {tie}))), some)

    def due_back(self):
        if len(self.states) == 1:
            return NoDeed, {}
        self.states.pop()
        return "ok"

    def due_of_question(self, word, numbers):
        web, some = self.states[-1]
        held = reach(web)
        if word == "web":
            return text_of_web(web)
        if word == "worth":
            return "/".join(str(number) for number in worth(web))
        if word == "counts":
            return str(by_size(web)).strip("[]").replace(",", "")
        if word == "telling" and twins(web):
            return f"twins {twins(web)[0][0]} {twins(web)[0][1]}"
        some_due = {
            "some": lambda: some,
            "unheld": lambda: tuple(sorted(set(range(web[0])) - held_by(web, some))),
            "spare": lambda: tuple(place for place in some if held_by(web, less(some, place)) == held_by(web, some)),
            "fewest": lambda: first_fewest(web),
            "apart": lambda: first_apart(web),
            "telling": lambda: first_telling(web),
            "mark": lambda: tuple(one for one in some if numbers[0] in held[one]),
            "guards": lambda: first_guards(web),
        }
        return text_of_some(some_due[word]())

    def done(self, web, some):
        self.states.append((web, some))
        return "ok"


class Numbers:
    """Numbers that look as if drawn by chance, but are the same each time."""

    def __init__(self, start):
        self.state = start

    def below(self, most):
        self.state = (self.state * 1103515245 + 12345) & 0x7FFFFFFF
        return (self.state >> 12) * most >> 19

    def one_of(self, things):
        return things[self.below(len(things))]


class DeskCase(unittest.TestCase):
    def refused(self, desk, error, line, fields=None):
        """Checks that the desk refuses the line with just this class, and is what it was."""
        before = repr(line)
        ahead = light_picture(desk)
        with self.subTest(line=line):
            with self.assertRaises(PlaceError) as caught:
                desk.say(line)
            self.assertIs(type(caught.exception), error)
            self.assertEqual(vars(caught.exception), fields or {})
            self.assertEqual(light_picture(desk), ahead)
            self.assertEqual(repr(line), before)

    def told(self, desk, *lines_and_answers):
        for line, answer in lines_and_answers:
            same(self, desk.say(line), answer, line)


class Interface(unittest.TestCase):
    def test_arguments_stand_in_the_order_told(self):
        same(self, list(inspect.signature(Desk).parameters), [])
        same(self, list(inspect.signature(Desk().say).parameters), ["line"])


class Deeds(DeskCase):
    def test_at_first(self):
        self.told(Desk(), ("web", "1"), ("some", "none"), ("unheld", "0"), ("spare", "none"), ("fewest", "0"),
                  ("apart", "0"), ("worth", "1/1"), ("telling", "0"), ("mark 0", "none"), ("counts", "0 1"),
                  ("guards", "0"))

    def test_web(self):
        desk = Desk()
        self.told(desk, ("web 4 0-1 1-2 2-3", "ok"), ("web", "4 0-1 1-2 2-3"), ("some", "none"), ("put 3", "ok"),
                  ("some", "3"), ("web 2 0-1", "ok"), ("web", "2 0-1"), ("some", "none"), ("back", "ok"),
                  ("web", "4 0-1 1-2 2-3"), ("some", "3"), ("web 8", "ok"), ("web", "8"), ("web 1", "ok"), ("web", "1"))

    def test_tie_and_cut(self):
        desk = told_desk("web 4", "put 2")
        self.told(desk, ("tie 0 1", "ok"), ("web", "4 0-1"), ("tie 3 2", "ok"), ("web", "4 0-1 2-3"), ("tie 2 1", "ok"),
                  ("web", "4 0-1 1-2 2-3"), ("some", "2"), ("cut 0 1", "ok"), ("web", "4 1-2 2-3"), ("cut 3 2", "ok"),
                  ("web", "4 1-2"), ("cut 1 2", "ok"), ("web", "4"), ("some", "2"))

    def test_put_and_take(self):
        desk = told_desk("web 4 0-1")
        self.told(desk, ("put 2", "ok"), ("put 0", "ok"), ("some", "0,2"), ("put 3", "ok"), ("some", "0,2,3"),
                  ("take 2", "ok"), ("some", "0,3"), ("take 0", "ok"), ("take 3", "ok"), ("some", "none"),
                  ("web", "4 0-1"))

    def test_lean(self):
        desk = told_desk("web 4 0-1 1-2 2-3", "put 0", "put 1", "put 2", "put 3")
        self.told(desk, ("lean", "ok"), ("some", "0,2"), ("spare", "none"), ("web", "4 0-1 1-2 2-3"),
                  ("back", "ok"), ("some", "0,1,2,3"))

    def test_lean_that_changes_nothing_is_a_deed_that_stands(self):
        desk = told_desk(*ROW, "lean")
        self.told(desk, ("some", "1,2"), ("back", "ok"), ("some", "1,2"), ("back", "ok"), ("some", "1"))
        # so is a web that was there already
        desk = told_desk("web 1")
        self.told(desk, ("back", "ok"))
        self.refused(desk, NoDeed, "back")

    def test_back(self):
        desk = told_desk(*ROW, "cut 1 2", "take 1", "web 3", "put 0")
        self.told(desk, ("back", "ok"), ("some", "none"), ("web", "3"), ("back", "ok"), ("web", "4 0-1 2-3"),
                  ("some", "2"), ("back", "ok"), ("some", "1,2"), ("back", "ok"), ("web", "4 0-1 1-2 2-3"))
        # a deed between: back undoes that, not a back
        self.told(desk, ("put 3", "ok"), ("back", "ok"), ("some", "1,2"), ("back", "ok"), ("some", "1"), ("back", "ok"),
                  ("some", "none"), ("back", "ok"), ("web", "1"))
        self.refused(desk, NoDeed, "back")
        self.told(desk, ("web 2", "ok"), ("back", "ok"), ("web", "1"))
        self.refused(desk, NoDeed, "back")

    def test_questions_are_no_deeds(self):
        desk = told_desk("web 2 0-1", "put 1")
        picture(desk)
        self.told(desk, ("back", "ok"), ("some", "none"), ("back", "ok"), ("web", "1"))
        picture(desk)
        self.refused(desk, NoDeed, "back")


class Questions(DeskCase):
    def test_ordinary_ones(self):
        desk = told_desk(*ROW)
        self.told(desk, ("web", "4 0-1 1-2 2-3"), ("some", "1,2"), ("unheld", "none"), ("spare", "none"),
                  ("fewest", "0,2"), ("apart", "0,3"), ("worth", "2/1"), ("telling", "0,1,2"), ("mark 0", "1"),
                  ("mark 1", "1,2"), ("mark 3", "2"), ("counts", "0 0 4 4 1"), ("guards", "0,2"))
        self.told(desk, ("take 2", "ok"), ("unheld", "3"), ("mark 3", "none"), ("put 0", "ok"), ("spare", "0"))
        self.told(desk, ("web 4 0-1 0-3 1-2 2-3", "ok"), ("worth", "4/3"), ("unheld", "0,1,2,3"))

    def test_twins(self):
        desk = told_desk("web 5 0-1 2-3 2-4 3-4")
        self.told(desk, ("telling", "twins 0 1"), ("cut 0 1", "ok"), ("telling", "twins 2 3"), ("cut 3 4", "ok"),
                  ("telling", "0,1,3,4"))
        self.told(told_desk("web 8 6-7"), ("telling", "twins 6 7"))

    def test_edges(self):
        self.told(told_desk("web 8"), ("fewest", "0,1,2,3,4,5,6,7"), ("apart", "0,1,2,3,4,5,6,7"), ("worth", "8/1"),
                  ("telling", "0,1,2,3,4,5,6,7"), ("counts", "0 0 0 0 0 0 0 0 1"), ("guards", "0,1,2,3,4,5,6,7"),
                  ("mark 7", "none"), ("spare", "none"), ("unheld", "0,1,2,3,4,5,6,7"))

    def test_all_questions_of_many_webs(self):
        for web in list(small_webs(3)) + list(small_webs(4))[11::7] + list(WEBS_BETWEEN) + list(WEBS_OF_8):
            desk, model = Desk(), Model()
            lines = [f"web {text_of_web(web)}"] + [f"put {place}" for place in range(0, web[0], 2)]
            lines += PLAIN_QUESTIONS + tuple(f"mark {place}" for place in range(web[0]))
            for line in lines:
                same(self, desk.say(line), model.due(line), (web, line))


class NoLines(DeskCase):
    def check_no_line(self, line):
        for desk in (Desk(), told_desk(*ROW), told_desk("web 8", "put 7")):
            self.refused(desk, NoLine, line)

    def test_of_anything(self):
        for thing in NO_TEXTS:
            self.check_no_line(thing)

    def test_other_words(self):
        for line in (
            "", " ", "  ", "\n", "0", "1", "ok", "Web", "WEB", "webs", "we", "some0", "Some", "somes", "none", "leaned",
            "undo", "twins", "holders", "telling0", "putt 0", "Put 0", "PUT 0", "Web 1", "WEB 1", "web\n1", "web,1",
            "web\n", "\nweb", "back\n", "lean\n", "x" * 300, "putting 0", "tied 0 1", "0 put", "-", "web1", "web-1",
        ):
            self.check_no_line(line)

    def test_another_number_of_words(self):
        for word in PLAIN_QUESTIONS[1:] + ("lean", "back"):
            for more in (" ", "  ", " 0", " 0 1", " none", " " + word):
                self.check_no_line(word + more)
            self.check_no_line(" " + word)
        for word in ("put", "take", "mark"):
            for more in ("", " ", "  ", " 0 ", "  0", " 0 1", " 0 0", " 0 1 2", "  0 1", " 0,1"):
                self.check_no_line(word + more)
            self.check_no_line(f" {word} 0")
        for word in ("tie", "cut"):
            for more in ("", " ", " 0", " 0 ", "  0", " 0  1", "  0 1", " 0 1 ", " 0 1 2", " 0-1", " 0,1", " 0 1\n",
                         "\n0 1"):
                self.check_no_line(word + more)
            self.check_no_line(f" {word} 0 1")
        self.check_no_line(" web")

    def test_numbers_not_written_so(self):
        wrong = ("00", "01", "-0", "-1", "+0", "+1", "0.", "1.0", "a", "", "0x1", "1_0", "1e0", "zero", "O", "0\n",
                 "\n0", "0,", "00000", "007", "none", "-", "0" * 40, "\u0661", "\u00b2", "0\t")
        for number in wrong:
            for word in ("put", "take", "mark"):
                self.check_no_line(f"{word} {number}")
            for word in ("tie", "cut"):
                for line in (f"{word} {number} 1", f"{word} 0 {number}", f"{word} {number} {number}"):
                    self.check_no_line(line)

    def test_they_come_ahead_of_all_else(self):
        # a place that is none, or both alike, with a number that is not so written
        for line in ("tie 9 00", "tie 00 9", "tie 9 -1", "cut 99 01", "tie 1 01", "tie 00 0", "cut 0 00", "tie 1 1 1",
                     "put 9 9", "put 01", "take 09", "mark 99 ", "lean 9", "back 1", "cut 9 9 9", "tie 9"):
            self.check_no_line(line)


class NoTexts(DeskCase):
    def test_what_writes_no_web(self):
        desk = told_desk(*ROW)
        for text in (
            "", " ", "  ", "0", "9", "10", "01", "+1", "-1", "1 ", " 1", "1\n", "\n", "none", "web", "web 1", "3 1-0",
            "3 0-0", "3 0-3", "3 0-1 0-1", "3 1-2 0-1", "3  0-1", "3 0-1 ", "3 0 1", "3 0,1", "3 00-1", "a", "ok",
            "0 1", "x" * 296, "1" * 296, "1" * 5000, "tie 0 1", "back", "4 0-1 1-2 2-3 3-4", "(1, ())",
        ):
            self.refused(desk, NoText, f"web {text}")
            self.refused(Desk(), NoText, f"web {text}")

    def test_web_alone_is_a_question_and_with_a_blank_none(self):
        desk = told_desk(*ROW)
        self.told(desk, ("web", "4 0-1 1-2 2-3"))
        self.refused(desk, NoText, "web ")
        self.refused(desk, NoLine, "web\n")
        self.refused(desk, NoLine, " web ")


class NoPlacesOrNumbers(DeskCase):
    def test_no_place(self):
        for desk, many in ((Desk(), 1), (told_desk(*ROW), 4), (told_desk("web 8"), 8)):
            for number in (many, many + 1, 9, 10, 100, 10 ** 30, 10 ** 40, int("9" * 250)):
                for word in ("put", "take", "mark"):
                    self.refused(desk, NoPlace, f"{word} {number}")
                for word in ("tie", "cut"):
                    for line in (f"{word} {number} 0", f"{word} 0 {number}", f"{word} {number} {number}"):
                        self.refused(desk, NoPlace, line)

    def test_a_number_of_far_too_many_figures(self):
        desk = told_desk(*ROW)
        self.refused(desk, NoPlace, "put " + "1" * 5000)
        self.refused(desk, NoPlace, "tie 0 " + "9" * 5000)

    def test_both_alike(self):
        for desk, many in ((Desk(), 1), (told_desk(*ROW), 4), (told_desk("web 8"), 8)):
            for place in range(many):
                self.refused(desk, NoNumber, f"tie {place} {place}")
                self.refused(desk, NoNumber, f"cut {place} {place}")


class NoDeeds(DeskCase):
    def test_ties(self):
        desk = told_desk(*ROW)
        for a, b in ((0, 1), (1, 2), (2, 3)):
            self.refused(desk, NoDeed, f"tie {a} {b}")
            self.refused(desk, NoDeed, f"tie {b} {a}")
        for a, b in ((0, 2), (0, 3), (1, 3)):
            self.refused(desk, NoDeed, f"cut {a} {b}")
            self.refused(desk, NoDeed, f"cut {b} {a}")

    def test_places(self):
        desk = told_desk(*ROW)
        for place in (1, 2):
            self.refused(desk, NoDeed, f"put {place}")
        for place in (0, 3):
            self.refused(desk, NoDeed, f"take {place}")

    def test_no_deed_stands(self):
        desk = Desk()
        self.refused(desk, NoDeed, "back")
        for line in ("put 1", "web 0", "tie 0 0", "take 0", "lean", "no line"):
            with self.assertRaises(PlaceError):
                desk.say(line)
        self.refused(desk, NoDeed, "back")

    def test_lean_where_some_do_not_hold_all(self):
        self.refused(Desk(), NotAll, "lean", {"place": 0})
        self.refused(told_desk("web 4 0-1 1-2 2-3", "put 0"), NotAll, "lean", {"place": 2})
        self.refused(told_desk("web 4 0-1 1-2 2-3", "put 1"), NotAll, "lean", {"place": 3})
        self.refused(told_desk("web 8", *(f"put {place}" for place in range(7))), NotAll, "lean", {"place": 7})


class Whole(DeskCase):
    WRONG = (
        None, 3, ["web"], "", "web ", "web 0", "web 3 1-0", "put 9", "put 00", "put", "tie 0", "tie 0 0", "tie 9 9",
        "cut 9 0", "take 8", "mark 8", "mark", "lean 1", "back back", "Web", "some ",
    )
    RIGHT = (
        "web", "some", "unheld", "spare", "fewest", "apart", "worth", "telling", "counts", "guards", "lean", "back",
    )
    FORMS = ("tie {} {}", "tie {} {}", "tie {} {}", "cut {} {}", "put {}", "put {}", "put {}", "take {}", "mark {}")
    WEBS = tuple(f"web {text_of_web(web)}" for web in WEBS_BETWEEN + WEBS_OF_8[2:10] + ((2, ()), (3, ((0, 1),))))

    def draw(self, numbers):
        way = numbers.below(20)
        if way == 0:
            return numbers.one_of(self.WEBS)
        if way <= 3:
            return numbers.one_of(self.WRONG)
        if way <= 9:
            return numbers.one_of(self.RIGHT)
        return numbers.one_of(self.FORMS).format(numbers.below(9), numbers.below(9))

    def check_line(self, desk, model, line):
        due = model.due(line)
        if isinstance(due, tuple):
            self.refused(desk, due[0], line, due[1])
            return due[0]
        same(self, desk.say(line), due, line)
        return None

    def test_many_lines_one_behind_the_other(self):
        met = set()
        for start in range(1, 13):
            desk, model, numbers = Desk(), Model(), Numbers(start)
            for _ in range(250):
                met.add(self.check_line(desk, model, self.draw(numbers)))
            # back leads deed by deed to what the desk was
            due = [[text_of_web(web), text_of_some(some)] for web, some in model.states[::-1]]
            same(self, way_back(desk), due, start)
            same(self, light_picture(desk), ["1", "none"])
        self.assertEqual(met, {None, NoLine, NoText, NoPlace, NoNumber, NoDeed, NotAll})

    def test_what_is_refused_changes_nothing(self):
        lines = ROW + ("cut 1 2", "put 0", "lean", "tie 3 0", "take 0")
        for at in range(len(lines) + 1):
            desk, other = told_desk(*lines[:at]), told_desk(*lines[:at])
            due = picture(other)
            web = other.say("web").split(" ")
            wrong = list(self.WRONG) + [f"tie {tie[0]} {tie[2]}" for tie in web[1:]]
            if other.say("unheld") != "none":
                wrong.append("lean")
            for line in wrong:
                with self.assertRaises(PlaceError):
                    desk.say(line)
            same(self, picture(desk), due, at)
            same(self, way_back(desk), way_back(other), at)

    def test_two_desks_have_nothing_in_common(self):
        one, other = Desk(), Desk()
        one.say("web 3 0-1")
        one.say("put 2")
        same(self, light_picture(other), ["1", "none"])
        self.refused(other, NoDeed, "back")
        other.say("web 2")
        other.say("put 0")
        same(self, light_picture(one), ["3 0-1", "2"])
        other.say("back")
        other.say("back")
        same(self, light_picture(one), ["3 0-1", "2"])
        self.refused(other, NoDeed, "back")
        one.say("back")
        same(self, light_picture(one), ["3 0-1", "none"])

    def test_the_same_is_told_again(self):
        for lines in ((), ROW, ROW[:2], ("web 8 0-1", "put 3", "tie 4 3")):
            desk = told_desk(*lines)
            for first, second in itertools.pairwise([picture(desk) for _ in range(3)]):
                same(self, first, second)


if __name__ == "__main__":
    unittest.main()
