"""The refusals: all stand straight under PlaceError, none under another one."""


class PlaceError(ValueError):
    """Any refusal."""


class NoWeb(PlaceError):
    """What is handed in for a web is none."""


class NoPlaces(PlaceError):
    """What is handed in for some is no rising tuple of places."""


class NoPlace(PlaceError):
    """What is handed in for a place is none."""


class NoNumber(PlaceError):
    """What is handed in for a number is none that is allowed there."""


class NotAll(PlaceError):
    """Some do not hold all."""

    def __init__(self, place):
        self.place = place


class NotUntied(PlaceError):
    """A tie has two of some."""


class NoShares(PlaceError):
    """What is handed in for shares is none."""


class NotTree(PlaceError):
    """The web is no tree."""


class NotTold(PlaceError):
    """Some do not tell apart."""


class NoCrowds(PlaceError):
    """What is handed in for crowds is none."""


class NoText(PlaceError):
    """The text does not write what it should."""


class NoLine(PlaceError):
    """The line is none that a desk knows."""


class NoDeed(PlaceError):
    """The deed cannot be done as the desk stands."""


class TooGreat(PlaceError):
    """A web would have more places than a web can have."""

    def __init__(self, many, most):
        self.many = many
        self.most = most
