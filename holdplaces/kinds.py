"""Webs of well known kinds, and webs made from other webs."""

from holdplaces.checks import need_between
from holdplaces.errors import TooGreat
from holdplaces.webs import MOST, need_web


def row(n):
    need_between(n, 1, MOST)
    return web_of(n, row_ties(n))


def ring(n):
    need_between(n, 3, MOST)
    return web_of(n, row_ties(n) + [(0, n - 1)])


def full(n):
    need_between(n, 1, MOST)
    return web_of(n, [(a, b) for a in range(n) for b in range(a + 1, n)])


def star(n):
    need_between(n, 1, MOST)
    return web_of(n, [(0, other) for other in range(1, n)])


def block(a, b):
    need_between(a, 1, MOST)
    # b is at most the whole part of MOST by a just where a times b is at most MOST
    need_between(b, 1, MOST // a)
    many = a * b
    across = [(place, place + 1) for place in range(many) if (place + 1) % b != 0]
    down = [(place, place + b) for place in range(many - b)]
    return web_of(many, across + down)


def beside(web, other):
    need_web(web)
    need_web(other)
    first = web[0]
    many = first + other[0]
    need_room(many)
    return web_of(many, list(web[1]) + [(first + a, first + b) for a, b in other[1]])


def crowned(web):
    need_web(web)
    many, ties = web
    need_room(2 * many)
    return web_of(2 * many, list(ties) + [(place, many + place) for place in range(many)])


def row_ties(n):
    return [(place, place + 1) for place in range(n - 1)]


def web_of(many, ties):
    """The web of ties told in any order, each with the lesser place ahead."""
    return (many, tuple(sorted(ties)))


def need_room(many):
    if many > MOST:
        raise TooGreat(many, MOST)
