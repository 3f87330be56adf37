"""Some by whose marks each place is told from each other one."""

from holdplaces.checks import need_between
from holdplaces.errors import NotTold
from holdplaces.holding import all_some, is_some, mark_of, marks_of, need_some
from holdplaces.webs import hoods, need_web

MOST_MARKED = 10 ** 30


def marks(web, some):
    need_web(web)
    need_some(web, some)
    return tuple(marks_of(hoods(web), some))


def tells_apart(web, thing):
    need_web(web)
    return is_some(web, thing) and are_told(marks_of(hoods(web), thing))


def first_alike(web, some):
    alike = pairs_alike(marks(web, some))
    return alike[0] if alike else None


def twins(web):
    return pairs_alike(hoods(web))


def place_by(web, some, mark):
    found = marks(web, some)
    if not are_told(found):
        raise NotTold("some that tell apart are due")
    # Python takes True for 1 and False for 0, so a tuple with these would be found, too
    if not is_some(web, mark) or mark not in found:
        return None
    return found.index(mark)


def fewest_telling(web):
    first = first_telling(web)
    return None if first is None else len(first)


def first_telling(web):
    around = hoods(web)
    found = [some for some in all_some(web) if are_told(marks_of(around, some))]
    # of several as short min tells the one that stands first
    return min(found, key=len, default=None)


def least_marks(n):
    need_between(n, 1, MOST_MARKED)
    # what has k binary figures is no more than k figures of 1, which are 2 ** k less 1, and more than fewer ones
    return n.bit_length()


def tells_others(web, thing):
    need_web(web)
    return is_some(web, thing) and are_told(other_marks(hoods(web), thing))


def fewest_others(web):
    return len(first_others(web))


def first_others(web):
    around = hoods(web)
    found = [some for some in all_some(web) if are_told(other_marks(around, some))]
    return min(found, key=len)


def are_told(found):
    """Whether none of these marks is empty and no two are alike."""
    return () not in found and pairs_alike(found) == []


def pairs_alike(things):
    """All (a, b), rising, such that the things at a and at b are the same."""
    many = len(things)
    return [(a, b) for a in range(many) for b in range(a + 1, many) if things[a] == things[b]]


def other_marks(around, some):
    """The marks of the places that are none of some."""
    return [mark_of(near, some) for place, near in enumerate(around) if place not in some]
