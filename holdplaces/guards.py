"""Guards on some places, moved to a place asked for: how long they can answer, and which answer for ever."""

from holdplaces.checks import need_between, rises
from holdplaces.errors import NoPlace
from holdplaces.holding import all_some, is_some, mark_of, need_some
from holdplaces.lean import without
from holdplaces.webs import hood_of, hoods, need_place, need_web

# more than any number of days: there are no more somes of a web, and each day is the last one of one at least
FOREVER = 256
# fewer than any number of days
UNANSWERED = -1


def moves(web, some, place):
    need_web(web)
    need_some(web, some)
    need_place(web, place)
    if place in some:
        raise NoPlace("a place without a guard is due")
    return moves_to(hood_of(web, place), some, place)


def is_lasting(web, thing):
    need_web(web)
    if not is_rising_somes(web, thing):
        return False
    around = hoods(web)
    family = {some: True for some in thing}
    return all([any([move in family for move in found]) for some in thing for found in askings(around, some)])


def family_of(web, number):
    need_web(web)
    need_between(number, 0, web[0])
    ended = days_of_ending(web, number)
    return [some for some in somes_of(web, number) if some not in ended]


def fewest_guards(web):
    return len(first_guards(web))


def first_guards(web):
    family = []
    number = 0
    # a guard on each place is a lasting family, so this ends
    while not family:
        family = family_of(web, number)
        number += 1
    return family[0]


def days(web, some):
    need_web(web)
    need_some(web, some)
    return days_of_ending(web, len(some)).get(some)


def worst_asking(web, some):
    need_web(web)
    need_some(web, some)
    around = hoods(web)
    free = unguarded(around, some)
    if not free:
        raise NoPlace("each place has a guard")
    ended = days_of_ending(web, len(some))
    left = [max(days_left(ended, found), default=UNANSWERED) for found in askings(around, some)]
    # index tells the least place of several
    return free[left.index(min(left))]


def best_move(web, some, place):
    found = moves(web, some, place)
    if not found:
        return None
    left = days_left(days_of_ending(web, len(some)), found)
    return found[left.index(max(left))]


def is_rising_somes(web, thing):
    """Whether a thing is a list of somes, one at least, that rises."""
    if not isinstance(thing, list) or len(thing) == 0:
        return False
    # rises compares what is in it, so all of that must be known to be somes first
    return all([is_some(web, some) for some in thing]) and rises(thing)


def somes_of(web, number):
    return [some for some in all_some(web) if len(some) == number]


def unguarded(around, some):
    return [place for place in range(len(around)) if place not in some]


def moves_to(near, some, place):
    """The moves to a place without a guard whose hood is near."""
    return sorted([tuple(sorted(without(some, guard) + (place,))) for guard in mark_of(near, some)])


def askings(around, some):
    """The moves that answer each asking, by the places without a guard; around has the hoods of all places."""
    return [moves_to(around[place], some, place) for place in unguarded(around, some)]


def days_of_ending(web, number):
    """The days of all somes of so many places that don't last for ever."""
    around = hoods(web)
    asked = {some: askings(around, some) for some in somes_of(web, number)}
    ended = {}
    day = 0
    ending = ending_now(asked, ended)
    while ending:
        ended.update({some: day for some in ending})
        day += 1
        ending = ending_now(asked, ended)
    return ended


def ending_now(asked, ended):
    """The somes that last no day more: of one of their askings each move, if any, leads to one that has ended."""
    return [some for some in asked if some not in ended
            and any([all([move in ended for move in found]) for found in asked[some]])]


def days_left(ended, found):
    return [ended.get(move, FOREVER) for move in found]
