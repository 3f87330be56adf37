"""Untied some, and crowds: the places of a web parted so that each two of a crowd are tied."""

from holdplaces.checks import rises
from holdplaces.errors import NoCrowds
from holdplaces.holding import all_some, is_some, need_some
from holdplaces.lean import are_untied
from holdplaces.webs import are_tied, need_web


def is_untied(web, some):
    need_web(web)
    need_some(web, some)
    return are_untied(web, some)


def most_untied(web):
    return len(first_untied(web))


def first_untied(web):
    need_web(web)
    found = [some for some in all_some(web) if are_untied(web, some)]
    # of several as long max tells the one that stands first
    return max(found, key=len)


def are_crowds(web, thing):
    need_web(web)
    # rises compares what is in it, so all of that must be known to be crowds first
    if not isinstance(thing, list) or not all([is_crowd(web, crowd) for crowd in thing]):
        return False
    return rises(thing) and sorted([place for crowd in thing for place in crowd]) == list(range(web[0]))


def fewest_crowds(web):
    return len(first_crowds(web))


def first_crowds(web):
    need_web(web)
    partings = [[]]
    # each place stands behind a crowd all of which are tied to it, or begins a new one, which is the last one then:
    # so the crowds rise
    for place in range(web[0]):
        partings = [more for crowds in partings for more in with_place(web, crowds, place)]
    return min(partings, key=len)


def crowd_family(web, crowds):
    need_web(web)
    if not are_crowds(web, crowds):
        raise NoCrowds("crowds of the web are due")
    family = [()]
    for crowd in crowds:
        family = [some + (place,) for some in family for place in crowd]
    return sorted([tuple(sorted(some)) for some in family])


def is_crowd(web, thing):
    """Whether a thing is some, one at least, each two of which are tied."""
    if not is_some(web, thing) or len(thing) == 0:
        return False
    return all([are_all_tied(web, thing[:at], place) for at, place in enumerate(thing)])


def are_all_tied(web, some, place):
    return all([are_tied(web[1], one, place) for one in some])


def with_place(web, crowds, place):
    """All ways to put a greater place to crowds."""
    ways = [crowds + [(place,)]]
    for at, crowd in enumerate(crowds):
        if are_all_tied(web, crowd, place):
            ways.append(crowds[:at] + [crowd + (place,)] + crowds[at + 1:])
    return ways
