"""Webs and some, written as texts and read again."""

from holdplaces.errors import NoText
from holdplaces.holding import is_some, need_some
from holdplaces.webs import is_web, need_web

FIGURES = "0123456789"
# longer numbers than this are no numbers of a web, and of far longer ones Python itself refuses to make any
MOST_FIGURES = 31
NONE = "none"


def shown(web):
    need_web(web)
    many, ties = web
    return " ".join([str(many)] + [f"{a}-{b}" for a, b in ties])


def shown_some(web, some):
    need_web(web)
    need_some(web, some)
    return ",".join([str(place) for place in some]) if some else NONE


def read(text):
    if not isinstance(text, str):
        raise NoText("a text is due")
    words = text.split(" ")
    web = (number_in(words[0]), tuple([numbers_in(word, "-") for word in words[1:]]))
    if not is_web(web):
        raise NoText("the text of a web is due")
    return web


def read_some(web, text):
    need_web(web)
    if not isinstance(text, str):
        raise NoText("a text is due")
    if text == NONE:
        return ()
    some = numbers_in(text, ",")
    if not is_some(web, some):
        raise NoText("the text of some is due")
    return some


def numbers_in(text, sign):
    """The numbers that stand between the signs, with None for each that is not written as one."""
    return tuple([number_in(word) for word in text.split(sign)])


def number_in(word):
    return int(word) if is_number(word) and len(word) <= MOST_FIGURES else None


def is_number(word):
    """Whether a word is figures alone, with no noughts ahead but 0 itself."""
    if word == "" or not all([sign in FIGURES for sign in word]):
        return False
    return word == "0" or word[0] != "0"
