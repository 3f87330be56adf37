"""What is asked of things handed in before it is known that they make up a web."""

from holdplaces.errors import NoNumber


def is_whole(thing):
    """Python counts True and False as ints; here they are no whole numbers."""
    return isinstance(thing, int) and not isinstance(thing, bool)


def is_between(thing, least, most):
    return is_whole(thing) and least <= thing <= most


def need_between(thing, least, most):
    if not is_between(thing, least, most):
        raise NoNumber(f"a whole number from {least} to {most} is due")


def is_pair(thing):
    return isinstance(thing, tuple) and len(thing) == 2


def rises(things):
    """Of things that can be compared: whether each is greater than the one ahead."""
    return all([things[at] < things[at + 1] for at in range(len(things) - 1)])
