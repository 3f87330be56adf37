"""0.2, 0.3, 0.4, 10.1 and the interface of texts.py."""

import itertools
import unittest

from holdplaces import texts
from holdplaces.errors import NoPlaces, NoText, NoWeb
from holdplaces.kinds import beside, full, ring, row, star
from holdplaces.texts import read, read_some, shown, shown_some
from things import (
    GREATS, NO_TEXTS, NO_WEBS, WEBS_OF_8, check_arguments, fewer_webs, no_somes, refuse, same, sample_webs,
    some_by_hand, somes_of, text_of_some, text_of_web, web_by_hand,
)

ONE_PLACE = (1, ())
SOME_WEBS = (ONE_PLACE, row(2), row(4), (4, ()), star(5), beside(ring(3), row(2)), full(8), (8, ()), ring(8))
SIGNS = [chr(code) for code in range(32, 127) if chr(code) != "%"] + ["\n"]


def near_ones(text, signs):
    """The text with a sign left out, put in or changed, with two exchanged, twice, turned round, in great letters."""
    for at in range(len(text) + 1):
        yield text[:at] + text[at + 1:]
        for sign in signs:
            yield text[:at] + sign + text[at:]
            yield text[:at] + sign + text[at + 1:]
        if at + 1 < len(text):
            yield text[:at] + text[at + 1] + text[at] + text[at + 2:]
    yield from (text + text, text[::-1], text.upper(), text.title(), text + " " + text, text + "," + text)


class Interface(unittest.TestCase):
    def test_arguments_stand_in_the_order_told(self):
        check_arguments(self, texts, {
            "shown": ["web"], "shown_some": ["web", "some"], "read": ["text"], "read_some": ["web", "text"],
        })


class Shown(unittest.TestCase):
    def test_ordinary_webs_and_some(self):
        same(self, shown(row(4)), "4 0-1 1-2 2-3")
        same(self, shown(ring(3)), "3 0-1 0-2 1-2")
        same(self, shown((5, ((0, 4), (2, 3)))), "5 0-4 2-3")
        same(self, shown_some(row(4), (0, 2)), "0,2")
        same(self, shown_some(row(4), (3,)), "3")
        same(self, shown_some(row(4), (0, 1, 2, 3)), "0,1,2,3")

    def test_edges(self):
        same(self, (shown(ONE_PLACE), shown((8, ())), shown((8, ((6, 7),)))), ("1", "8", "8 6-7"))
        same(self, (shown_some(ONE_PLACE, ()), shown_some(ONE_PLACE, (0,))), ("none", "0"))
        same(self, (shown_some((8, ()), ()), shown_some((8, ()), tuple(range(8)))), ("none", "0,1,2,3,4,5,6,7"))

    def test_what_is_written_is_read_again(self):
        for web in sample_webs():
            text = text_of_web(web)
            same(self, shown(web), text, web)
            same(self, read(text), web, text)
        for web in fewer_webs():
            for some in somes_of(web):
                text = text_of_some(some)
                same(self, shown_some(web, some), text, (web, some))
                same(self, read_some(web, text), some, (web, text))


class Read(unittest.TestCase):
    def check_read(self, text):
        due = web_by_hand(text)
        if due is None:
            refuse(self, NoText, read, text)
        else:
            same(self, read(text), due, text)
            same(self, shown(due), text)

    def test_ordinary_texts(self):
        same(self, read("4 0-1 1-2 2-3"), row(4))
        same(self, read("3"), (3, ()))
        same(self, read("8 0-7"), (8, ((0, 7),)))
        same(self, read("1"), (1, ()))

    def test_texts_of_few_signs(self):
        for size in range(6):
            for signs in itertools.product("0123- ", repeat=size):
                self.check_read("".join(signs))

    def test_each_sign_by_itself(self):
        for sign in SIGNS:
            self.check_read(sign)
            self.check_read("1" + sign)
            self.check_read(sign + "1")
            self.check_read("3 0" + sign + "1")
            self.check_read("3" + sign + "0-1")

    def test_texts_near_those_of_webs(self):
        for web in SOME_WEBS[:6] + WEBS_OF_8[:2] + (WEBS_OF_8[8],):
            for text in near_ones(text_of_web(web), " 0178-,+\n."):
                self.check_read(text)

    def test_texts_that_write_none(self):
        for text in (
            "", " ", "\n", "0", "9", "10", "01", "00", "+1", "-1", "1.", "1,", "1 ", " 1", "1\n", "\n1", "1  ", "one",
            "ONE", "none", "1 none", "web", "web 1", "3 0-1 ", "3  0-1", " 3 0-1", "3 0-1  1-2", "3 0 1", "3 0,1",
            "3 0-1,1-2", "3 0--1", "3 0-", "3 -1", "3 -", "3 0", "3 0-1-2", "3 1-0", "3 0-0", "3 0-3", "3 00-1",
            "3 0-01", "3 +0-1", "3 0-+1", "3 0-1 0-1", "3 1-2 0-1", "3 0-2 0-1", "3 0-1\n", "3\n0-1", "3 0-1\n1-2",
            "3 a-b", "3 (0, 1)", "(3, ())", "03 0-1", "3, 0-1", "3. 0-1", "3 0 - 1", "3 0- 1", "3 0 -1", "1 0-1",
            "2 0-2", "8 0-8", "9 0-1", "9 7-8", "3 0-10", "3 0-1 ok", "3\t0-1", "1" * 300, "1 " * 150,
            "3" + " 0-1" * 74, "8 " + "0" * 298, "1" * 31, "0" * 31, "1" * 32, "3 0-" + "1" * 200, "3 0_1", "1_0",
            "1e0", "0x1", "3 0-\u0661", "\u0663", "\u00b9",
        ):
            refuse(self, NoText, read, text)

    def test_far_too_long_ones(self):
        for text in ("1" * 5000, "3 0-" + "1" * 5000, "1 " * 3000):
            refuse(self, NoText, read, text)
        refuse(self, NoText, read_some, row(4), "1" * 5000)
        refuse(self, NoText, read_some, row(4), "1," * 3000)

    def test_of_anything(self):
        for thing in NO_TEXTS:
            refuse(self, NoText, read, thing)


class ReadSome(unittest.TestCase):
    def check_read(self, web, text):
        due = some_by_hand(web, text)
        if due is None:
            refuse(self, NoText, read_some, web, text)
        else:
            same(self, read_some(web, text), due, (web, text))
            same(self, shown_some(web, due), text, web)

    def test_ordinary_texts(self):
        same(self, read_some(row(4), "0,2"), (0, 2))
        same(self, read_some(row(4), "3"), (3,))
        same(self, read_some(row(4), "none"), ())
        same(self, read_some(ONE_PLACE, "0"), (0,))
        same(self, read_some((8, ()), "0,1,2,3,4,5,6,7"), tuple(range(8)))

    def test_texts_of_few_signs(self):
        for web in (ONE_PLACE, row(3), (4, ())):
            for size in range(6):
                for signs in itertools.product("0123, ", repeat=size):
                    self.check_read(web, "".join(signs))

    def test_texts_near_those_of_some(self):
        for web in (ONE_PLACE, row(4), (8, ()), full(8)):
            for some in ((), (0,), (0, 1, 3), (2, 3), tuple(range(web[0]))):
                for text in near_ones(text_of_some(some), " 0137-,+\nN"):
                    self.check_read(web, text)

    def test_each_sign_by_itself(self):
        for sign in SIGNS:
            self.check_read(row(4), sign)
            self.check_read(row(4), "0" + sign + "2")
            self.check_read(row(4), "0,2" + sign)
            self.check_read(row(4), sign + "none")

    def test_texts_that_write_none(self):
        for text in (
            "", " ", ",", "\n", "None", "NONE", "none ", " none", "none\n", "none,none", "none,0", "0,none", "non",
            "nil", "()", "(0,)", "0,", ",0", "0,,1", "0, 1", "0 ,1", "0 1", "0-1", "0;1", "1,0", "0,0", "0,1,1", "4",
            "0,4", "-1", "+0", "00", "01", "0,01", "0,1\n", "0\n", "a", "0,a", "8", "9", "10", "0,10", "1" * 300,
            "0," * 150, "0" * 40, "1" * 31, "0.", "0x0", "1_0", "\u0661",
        ):
            refuse(self, NoText, read_some, row(4), text)

    def test_of_anything(self):
        for web in SOME_WEBS:
            for thing in NO_TEXTS:
                refuse(self, NoText, read_some, web, thing)


class Refused(unittest.TestCase):
    def test_no_web(self):
        for thing in NO_WEBS:
            refuse(self, NoWeb, shown, thing)
            refuse(self, NoWeb, shown_some, thing, ())
            refuse(self, NoWeb, read_some, thing, "none")
            refuse(self, NoWeb, read_some, thing, "0")

    def test_no_some(self):
        for web in SOME_WEBS:
            for thing in no_somes(web[0]):
                refuse(self, NoPlaces, shown_some, web, thing)

    def test_no_web_comes_ahead_of_all(self):
        for web, thing in itertools.product(NO_WEBS, (None, [0], (1, 0), (True,), "", GREATS[0], "00", -1, {})):
            refuse(self, NoWeb, shown_some, web, thing)
            refuse(self, NoWeb, read_some, web, thing)


if __name__ == "__main__":
    unittest.main()
