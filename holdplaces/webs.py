"""Webs: what is one, the hoods of its places, ways along its ties, and its pieces."""

from holdplaces.checks import is_between, is_pair, is_whole, rises
from holdplaces.errors import NoPlace, NoWeb

MOST = 8


def is_web(thing):
    if not is_pair(thing):
        return False
    many, ties = thing
    if not is_between(many, 1, MOST) or not isinstance(ties, tuple):
        return False
    # rises compares the ties, so all of them must be known to be ties first
    return all([is_tie(tie, many) for tie in ties]) and rises(ties)


def is_tie(thing, many):
    if not is_pair(thing):
        return False
    a, b = thing
    return is_whole(a) and is_whole(b) and 0 <= a < b < many


def need_web(thing):
    if not is_web(thing):
        raise NoWeb("a web is due")


def is_place(web, thing):
    return is_between(thing, 0, web[0] - 1)


def need_place(web, thing):
    if not is_place(web, thing):
        raise NoPlace("a place of the web is due")


def hood(web, place):
    need_web(web)
    need_place(web, place)
    return hood_of(web, place)


def hoods(web):
    need_web(web)
    return tuple([hood_of(web, place) for place in range(web[0])])


def hood_of(web, place):
    """The hood of what is known to be a place of a web."""
    many, ties = web
    return tuple([other for other in range(many) if other == place or are_tied(ties, place, other)])


def are_tied(ties, one, other):
    return (min(one, other), max(one, other)) in ties


def far(web, one, other):
    need_web(web)
    need_place(web, one)
    need_place(web, other)
    return ways_from(web, one).get(other)


def ways_from(web, start):
    """The least number of ties from start to each place that ties lead to."""
    ways = {start: 0}
    # places wait in the order they were met, so each is met by a shortest way first
    waiting = [start]
    while waiting:
        place = waiting.pop(0)
        for other in hood_of(web, place):
            if other not in ways:
                ways[other] = ways[place] + 1
                waiting.append(other)
    return ways


def pieces(web):
    need_web(web)
    found = []
    seen = {}
    # going by the least place not seen yet, the pieces come out rising
    for place in range(web[0]):
        if place not in seen:
            ways = ways_from(web, place)
            seen.update(ways)
            found.append(tuple(sorted(ways)))
    return found


def is_tree(web):
    need_web(web)
    many, ties = web
    return len(pieces(web)) == 1 and len(ties) == many - 1
