"""Rows, rings and ladders of up to 300 places or steps, told by their length: no web is made of them."""

from holdplaces.checks import need_between

LONGEST = 300


def need_row(n):
    need_between(n, 1, LONGEST)


def need_ring(n):
    need_between(n, 3, LONGEST)


def row_fewest(n):
    need_row(n)
    return thirds(n)


def ring_fewest(n):
    need_ring(n)
    return thirds(n)


def ladder_fewest(n):
    need_row(n)
    return n // 2 + 1


def row_set(n):
    need_row(n)
    return middles(n)


def ring_set(n):
    need_ring(n)
    # what holds all of a row holds all of it with a tie more
    return middles(n)


def ladder_set(n):
    need_row(n)
    # where n is even the last place on one side is held by none of zigzag, so the last step gets one of its own
    return zigzag(n) if n % 2 == 1 else zigzag(n) + (2 * n - 1,)


def row_paper(n):
    need_row(n)
    return thirds_from(0, n)


def ring_paper(n):
    need_ring(n)
    return thirds_from(0, n) if n % 3 == 0 else None


def ladder_paper(n):
    need_row(n)
    return zigzag(n) if n % 2 == 1 else None


def row_many(n):
    """Some hold all of a row just where they go by leaps of at most 3, the leap onto the row and off it at most 2.

    As few as can be make one leap more than they are. Leaps as long as can be would lead spare places too far, so
    some leaps are shorter by this together.
    """
    need_row(n)
    few = thirds(n)
    spare = 3 * few - n
    if spare == 0:
        return 1
    if spare == 1:
        return few + 1
    # two leaps are shorter by 1, or one is by 2, which those onto the row and off it can't be
    return (few + 1) * few // 2 + few - 1


def ring_many(n):
    """As of a row, but all leaps go from one of some to the next, and there are as many of them as of some."""
    need_ring(n)
    few = thirds(n)
    spare = 3 * few - n
    if spare == 0:
        return 3
    if spare == 1:
        # the shorter leap may begin at any place
        return n
    # one leap is shorter by 2; or two are by 1, and each such pair is met from the one and from the other
    return n + n * (few - 1) // 2


def row_once(n):
    need_row(n)
    # the last one holds just up to the end where it is the last place or the one ahead
    return [thirds_from(start, n) for start in range(2) if (n - 1 - start) % 3 <= 1]


def ring_once(n):
    need_ring(n)
    return [thirds_from(start, n) for start in range(3)] if n % 3 == 0 else []


def row_holding(n):
    need_row(n)
    return summed_on((1, 3, 5), n - 1)


def ring_holding(n):
    need_ring(n)
    return summed_on((7, 11, 21), n - 3)


def thirds(n):
    return (n + 2) // 3


def thirds_from(start, n):
    return tuple(range(start, n, 3))


def middles(n):
    """The middle one of each three places; of one or two that are left at the end the last one."""
    return tuple([min(start + 1, n - 1) for start in range(0, n, 3)])


def zigzag(n):
    """A place of every other step of a ladder, now on the one side, now on the other."""
    return tuple([2 * step + step // 2 % 2 for step in range(0, n, 2)])


def summed_on(first, at):
    """The number at a place, from 0 on, of those that begin with three and go on with sums of the three ahead."""
    one, two, three = first
    for step in range(at):
        one, two, three = two, three, one + two + three
    return one
