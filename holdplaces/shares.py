"""Shares of a web: what they come to, and the best that hold all or pack."""

from holdplaces.errors import NoShares
from holdplaces.fractions import NOTHING, ONE, is_fraction, is_less, lowest, rounded_up, summed
from holdplaces.holding import need_some
from holdplaces.webs import hoods, need_web


def is_shares(web, thing):
    if not isinstance(thing, tuple) or len(thing) != web[0]:
        return False
    return all([is_fraction(share) for share in thing])


def need_shares(web, thing):
    if not is_shares(web, thing):
        raise NoShares("a tuple of one fraction for each place is due")


def total(web, shares):
    need_web(web)
    need_shares(web, shares)
    return summed(shares)


def hood_totals(web, shares):
    need_web(web)
    need_shares(web, shares)
    return tuple([summed([shares[place] for place in near]) for near in hoods(web)])


def share_holds(web, shares):
    return not any([is_less(part, ONE) for part in hood_totals(web, shares)])


def share_packs(web, shares):
    return not any([is_less(ONE, part) for part in hood_totals(web, shares)])


def shares_of(web, some):
    need_web(web)
    need_some(web, some)
    return tuple([ONE if place in some else NOTHING for place in range(web[0])])


def least_by(web, shares):
    if not share_packs(web, shares):
        raise NoShares("shares that pack are due")
    return rounded_up(total(web, shares))


def worth(web):
    return best_shares(web)[0]


def best_shares(web):
    """By the simplex method in whole numbers, for the greatest total of shares that pack.

    The table has a line for each place, which says that the shares of its hood and the room they leave come to 1, and
    a last line, the goal, of what the total could still gain. Columns: the shares, the rooms, what the line comes to.
    All its numbers stand over the same bottom.
    """
    need_web(web)
    many = web[0]
    table = first_table(web)
    # which share or room each line tells the value of; those that no line tells are 0
    told = [many + place for place in range(many)]
    bottom = 1
    column = gaining(table[-1])
    while column is not None:
        at = tightest(table, told, column)
        table = turned(table, at, column, bottom)
        bottom = table[at][column]
        told[at] = column
        column = gaining(table[-1])
    return (lowest(table[-1][-1], bottom), packing_of(table, told, bottom), holding_of(table, bottom))


def first_table(web):
    many = web[0]
    lines = [ones_at(near, many) + ones_at((place,), many) + [1] for place, near in enumerate(hoods(web))]
    goal = [-1] * many + [0] * many + [0]
    return lines + [goal]


def ones_at(some, many):
    return [1 if place in some else 0 for place in range(many)]


def gaining(goal):
    """The first column by which the total grows, None where there is none."""
    for column, number in enumerate(goal):
        if number < 0:
            return column
    return None


def tightest(table, told, column):
    """The line that lets the column grow least; of several the one that tells the first column.

    Always the first of several, here and in gaining: else the tables might come round to an earlier one for ever.
    """
    best = None
    for at in range(len(told)):
        if table[at][column] > 0 and (best is None or is_tighter(table, told, column, at, best)):
            best = at
    return best


def is_tighter(table, told, column, at, best):
    one = table[at][-1] * table[best][column]
    other = table[best][-1] * table[at][column]
    return (one, told[at]) < (other, told[best])


def turned(table, at, column, bottom):
    """The table in which the line tells the column; the line's number there is the new bottom."""
    by = table[at]
    return [line if k == at else turned_line(line, by, column, bottom) for k, line in enumerate(table)]


def turned_line(line, by, column, bottom):
    # the division leaves no rest: each number of a table is a determinant of numbers of the first one
    return [(number * by[column] - line[column] * other) // bottom for number, other in zip(line, by)]


def packing_of(table, told, bottom):
    shares = [NOTHING for line in told]
    for at, column in enumerate(told):
        if column < len(told):
            shares[column] = lowest(table[at][-1], bottom)
    return tuple(shares)


def holding_of(table, bottom):
    """What the goal has for the rooms: by duality, hoods being the same seen from both sides, shares that hold all."""
    many = len(table) - 1
    return tuple([lowest(number, bottom) for number in table[-1][many:2 * many]])
