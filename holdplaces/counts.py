"""How many somes hold all, how many are parted, and the counts of a web from those of its pieces."""

from holdplaces.checks import is_whole
from holdplaces.errors import NoNumber, NoPlace
from holdplaces.holding import all_holding, all_some, marks_of, need_some
from holdplaces.kinds import web_of
from holdplaces.webs import are_tied, hoods, need_place, need_web, pieces


def by_size(web):
    need_web(web)
    sizes = [len(some) for some in all_holding(web)]
    return [sizes.count(size) for size in range(web[0] + 1)]


def many_holding(web):
    return sum(by_size(web))


def many_parted(web):
    need_web(web)
    around = hoods(web)
    return sum([many_beyond(around, some) for some in all_some(web)])


def parted_with(web, some):
    need_web(web)
    need_some(web, some)
    return many_beyond(hoods(web), some)


def with_tie(web, one, other):
    need_web(web)
    need_place(web, one)
    need_place(web, other)
    if one == other:
        raise NoPlace("two unlike places are due")
    many, ties = web
    if are_tied(ties, one, other):
        return web
    return web_of(many, list(ties) + [(min(one, other), max(one, other))])


def multiplied(one, other):
    need_numbers(one)
    need_numbers(other)
    sums = [0] * (len(one) + len(other) - 1)
    for i, a in enumerate(one):
        for j, b in enumerate(other):
            sums[i + j] += a * b
    return sums


def piece_counts(web):
    # pieces refuses what is no web
    return [by_size(piece_alone(web, piece)) for piece in pieces(web)]


def many_beyond(around, some):
    """How many somes are made of places that some don't hold."""
    return 1 << marks_of(around, some).count(())


def need_numbers(thing):
    if not isinstance(thing, list) or len(thing) == 0:
        raise NoNumber("a list of one number at least is due")
    if not all([is_whole(number) and number >= 0 for number in thing]):
        raise NoNumber("whole numbers from 0 on are due")


def piece_alone(web, piece):
    """The piece as a web of its own, its places numbered anew."""
    return web_of(len(piece), [(piece.index(a), piece.index(b)) for a, b in web[1] if a in piece])
