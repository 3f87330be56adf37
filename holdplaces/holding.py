"""Some: what they are, which places they hold, and which of them hold nothing alone."""

from holdplaces.checks import rises
from holdplaces.errors import NoPlace, NoPlaces, NotAll
from holdplaces.webs import hood_of, hoods, is_place, need_place, need_web


def is_some(web, thing):
    if not isinstance(thing, tuple):
        return False
    # rises compares what is in it, so all of that must be known to be places first
    return all([is_place(web, place) for place in thing]) and rises(thing)


def need_some(web, thing):
    if not is_some(web, thing):
        raise NoPlaces("a rising tuple of places of the web is due")


def need_all(web, some):
    free = unheld(web, some)
    if free:
        raise NotAll(free[0])


def holders(web, some, place):
    need_web(web)
    need_some(web, some)
    need_place(web, place)
    return mark_of(hood_of(web, place), some)


def unheld(web, some):
    need_web(web)
    need_some(web, some)
    return places_marked(marks_of(hoods(web), some), ())


def holds_all(web, some):
    return unheld(web, some) == ()


def own(web, some, place):
    need_web(web)
    need_some(web, some)
    need_place(web, place)
    if place not in some:
        raise NoPlace("a place of some is due")
    return places_marked(marks_of(hoods(web), some), (place,))


def spare(web, some):
    need_web(web)
    need_some(web, some)
    return spare_by(marks_of(hoods(web), some), some)


def mark_of(near, some):
    """Those of some that hold the place whose hood is near: ties go both ways, so they are those in it."""
    return tuple([one for one in some if one in near])


def marks_of(around, some):
    """The holders of each place; around has the hoods of all places, so that they are made but once."""
    return [mark_of(near, some) for near in around]


def places_marked(marks, mark):
    return tuple([place for place, found in enumerate(marks) if found == mark])


def spare_by(marks, some):
    return tuple([place for place in some if (place,) not in marks])


def all_some(web):
    """All some of a web, rising as tuples are."""
    found = [()]
    for place in range(web[0]):
        found = found + [some + (place,) for some in found]
    return sorted(found)


def all_holding(web):
    """All some that hold all, rising as tuples are."""
    around = hoods(web)
    return [some for some in all_some(web) if () not in marks_of(around, some)]
