"""The fewest places that hold all, the most that are apart by hoods, and papers, which show both."""

from holdplaces.holding import all_holding, all_some, is_some, marks_of, need_all, need_some
from holdplaces.lean import leaned
from holdplaces.webs import hoods, need_web


def fewest(web):
    return len(first_fewest(web))


def first_fewest(web):
    return all_fewest(web)[0]


def all_fewest(web):
    need_web(web)
    found = all_holding(web)
    least = min([len(some) for some in found])
    return [some for some in found if len(some) == least]


def is_apart(web, some):
    need_web(web)
    need_some(web, some)
    return is_apart_by(marks_of(hoods(web), some))


def most_apart(web):
    return len(first_apart(web))


def first_apart(web):
    need_web(web)
    around = hoods(web)
    found = [some for some in all_some(web) if is_apart_by(marks_of(around, some))]
    # of several as long max tells the one that stands first
    return max(found, key=len)


def is_paper(web, some, thing):
    need_web(web)
    need_some(web, some)
    need_all(web, some)
    return is_some(web, thing) and len(thing) == len(some) and is_apart(web, thing)


def paper_for(web):
    # a paper has as many as fewest, and none that are apart are more: so it is one of the most that are apart
    found = first_apart(web)
    return found if len(found) == fewest(web) else None


def is_once(web, some):
    need_web(web)
    need_some(web, some)
    return is_once_by(marks_of(hoods(web), some))


def all_once(web):
    need_web(web)
    around = hoods(web)
    return [some for some in all_some(web) if is_once_by(marks_of(around, some))]


def two_parts(web):
    need_web(web)
    if any([len(near) == 1 for near in hoods(web)]):
        return None
    places = tuple(range(web[0]))
    kept = leaned(web, places)
    return (kept, tuple([place for place in places if place not in kept]))


def is_apart_by(marks):
    """A place in the hoods of two of some is one that both hold."""
    return all([len(mark) <= 1 for mark in marks])


def is_once_by(marks):
    return all([len(mark) == 1 for mark in marks])
