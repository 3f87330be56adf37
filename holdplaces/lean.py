"""Lean some, which hold all with none of them to spare, and untied some."""

from holdplaces.errors import NotUntied
from holdplaces.holding import (
    all_holding, holds_all, is_some, marks_of, need_all, need_some, spare, spare_by, unheld,
)
from holdplaces.webs import hoods, need_web


def leaned(web, some):
    need_web(web)
    need_some(web, some)
    need_all(web, some)
    standing = some
    idle = spare(web, standing)
    while idle:
        standing = without(standing, idle[-1])
        # others may be needed once one is left out, so what is spare is asked anew
        idle = spare(web, standing)
    return standing


def is_lean(web, thing):
    need_web(web)
    return is_some(web, thing) and holds_all(web, thing) and spare(web, thing) == ()


def all_lean(web):
    need_web(web)
    around = hoods(web)
    return [some for some in all_holding(web) if spare_by(marks_of(around, some), some) == ()]


def grown(web, some):
    need_web(web)
    need_some(web, some)
    if not are_untied(web, some):
        raise NotUntied("a tie has two of some")
    standing = some
    # a place that is none of them and tied to none of them is just one that none of them holds
    free = unheld(web, standing)
    while free:
        standing = tuple(sorted(standing + (free[0],)))
        free = unheld(web, standing)
    return standing


def untied_holders(web):
    need_web(web)
    return [some for some in all_holding(web) if are_untied(web, some)]


def are_untied(web, some):
    return not any([a in some and b in some for a, b in web[1]])


def without(some, place):
    return tuple([one for one in some if one != place])
