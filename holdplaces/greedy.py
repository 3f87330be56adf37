"""Places taken greedily, the prices of what they hold, and sums of 1, 1/2, 1/3 and so on."""

from holdplaces.checks import need_between
from holdplaces.fractions import summed
from holdplaces.webs import MOST, hoods, need_web


def greedy(web):
    need_web(web)
    return [taken for taken, closed in rounds(web)]


def prices(web):
    need_web(web)
    price = {place: (1, len(closed)) for taken, closed in rounds(web) for place in closed}
    return tuple([price[place] for place in range(web[0])])


def harmonic(number):
    need_between(number, 0, MOST)
    return summed([(1, part) for part in range(1, number + 1)])


def rounds(web):
    """The places in the order in which they are taken, each with the places that it holds first."""
    around = hoods(web)
    waiting = list(range(web[0]))
    told = []
    while waiting:
        gains = [len([place for place in near if place in waiting]) for near in around]
        # index tells the least of several
        taken = gains.index(max(gains))
        closed = [place for place in around[taken] if place in waiting]
        told.append((taken, closed))
        waiting = [place for place in waiting if place not in closed]
    return told
