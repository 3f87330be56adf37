"""Trees: their ends, the way to a root, and as many holders as places that are apart by hoods."""

from holdplaces.errors import NotTree
from holdplaces.fractions import lowest, rounded_up
from holdplaces.webs import hood_of, hoods, is_tree, need_place, ways_from


def need_tree(web):
    # is_tree refuses what is no web
    if not is_tree(web):
        raise NotTree("a tree is due")


def ends(web):
    need_tree(web)
    return tuple([place for place, near in enumerate(hoods(web)) if len(near) == 2])


def above(web, root):
    need_tree(web)
    need_place(web, root)
    ways = ways_from(web, root)
    return tuple([upper(web, ways, place) for place in range(web[0])])


def upper(web, ways, place):
    nearer = [other for other in hood_of(web, place) if ways[other] < ways[place]]
    return nearer[0] if nearer else -1


def from_far(web, root):
    need_tree(web)
    need_place(web, root)
    ways = ways_from(web, root)
    return [place for way, place in sorted([(-ways[place], place) for place in range(web[0])])]


def steps(web, root):
    uppers = above(web, root)
    around = hoods(web)
    held = []
    told = []
    for place in from_far(web, root):
        if place not in held:
            holder = root if place == root else uppers[place]
            told.append((place, holder))
            held.extend(around[holder])
    return told


def tree_pair(web, root):
    told = steps(web, root)
    holders = sorted([holder for place, holder in told])
    places = sorted([place for place, holder in told])
    return (tuple(holders), tuple(places))


def by_ends(web):
    outer = len(ends(web))
    # of one and of two places, too, this comes to 1
    return rounded_up(lowest(web[0] + 2 - outer, 3))
