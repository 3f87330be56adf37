"""A desk: it has a web and some of it, does deeds and answers questions, each of them told in a line."""

from holdplaces.apart import first_telling, twins
from holdplaces.counts import by_size, with_tie
from holdplaces.errors import NoDeed, NoLine, NoNumber
from holdplaces.fewest import first_apart, first_fewest
from holdplaces.guards import first_guards
from holdplaces.holding import holders, spare, unheld
from holdplaces.lean import leaned, without
from holdplaces.shares import worth
from holdplaces.texts import is_number, number_in, read, shown, shown_some
from holdplaces.webs import are_tied, need_place

DONE = "ok"
WEB_AHEAD = "web "
# how many numbers stand behind each word
NUMBERS_BEHIND = {
    "tie": 2, "cut": 2, "put": 1, "take": 1, "lean": 0, "back": 0,
    "web": 0, "some": 0, "unheld": 0, "spare": 0, "fewest": 0, "apart": 0, "worth": 0, "telling": 0, "mark": 1,
    "counts": 0, "guards": 0,
}


def do_tie(web, some, places):
    one, other = unlike(places)
    if are_tied(web[1], one, other):
        raise NoDeed("these two are tied already")
    return (with_tie(web, one, other), some)


def do_cut(web, some, places):
    one, other = unlike(places)
    many, ties = web
    if not are_tied(ties, one, other):
        raise NoDeed("these two are not tied")
    return ((many, without(ties, (min(one, other), max(one, other)))), some)


def do_put(web, some, places):
    if places[0] in some:
        raise NoDeed("this place is one of some already")
    return (web, tuple(sorted(some + (places[0],))))


def do_take(web, some, places):
    if places[0] not in some:
        raise NoDeed("this place is none of some")
    return (web, without(some, places[0]))


def do_lean(web, some, places):
    return (web, leaned(web, some))


def tell_web(web, some, places):
    return shown(web)


def tell_some(web, some, places):
    return shown_some(web, some)


def tell_unheld(web, some, places):
    return shown_some(web, unheld(web, some))


def tell_spare(web, some, places):
    return shown_some(web, spare(web, some))


def tell_fewest(web, some, places):
    return shown_some(web, first_fewest(web))


def tell_apart(web, some, places):
    return shown_some(web, first_apart(web))


def tell_worth(web, some, places):
    top, bottom = worth(web)
    return f"{top}/{bottom}"


def tell_telling(web, some, places):
    first = first_telling(web)
    if first is not None:
        return shown_some(web, first)
    a, b = twins(web)[0]
    return f"twins {a} {b}"


def tell_mark(web, some, places):
    return shown_some(web, holders(web, some, places[0]))


def tell_counts(web, some, places):
    return " ".join([str(number) for number in by_size(web)])


def tell_guards(web, some, places):
    return shown_some(web, first_guards(web))


# each tells the web and the some that stand once it is done
DEEDS = {"tie": do_tie, "cut": do_cut, "put": do_put, "take": do_take, "lean": do_lean}
QUESTIONS = {
    "web": tell_web, "some": tell_some, "unheld": tell_unheld, "spare": tell_spare, "fewest": tell_fewest,
    "apart": tell_apart, "worth": tell_worth, "telling": tell_telling, "mark": tell_mark, "counts": tell_counts,
    "guards": tell_guards,
}


class Desk:
    """A web, some of it, and the deeds that stand; a refused line changes none of these."""

    def __init__(self):
        self.web = (1, ())
        self.some = ()
        # the webs and somes ahead of the deeds that stand
        self.past = []

    def say(self, line):
        if not isinstance(line, str):
            raise NoLine("a text is due")
        if line.startswith(WEB_AHEAD):
            return self.stand(read(line[len(WEB_AHEAD):]), ())
        word, numbers = parted(line)
        if word == "back":
            return self.go_back()
        for number in numbers:
            need_place(self.web, number)
        if word in QUESTIONS:
            tell = QUESTIONS[word]
            return tell(self.web, self.some, numbers)
        do = DEEDS[word]
        web, some = do(self.web, self.some, numbers)
        return self.stand(web, some)

    def stand(self, web, some):
        self.past.append((self.web, self.some))
        self.web = web
        self.some = some
        return DONE

    def go_back(self):
        if not self.past:
            raise NoDeed("no deed stands")
        self.web, self.some = self.past.pop()
        return DONE


def parted(line):
    """The word of a line, and the numbers behind it, None for those that are too long for any place."""
    words = line.split(" ")
    word = words[0]
    behind = words[1:]
    if word not in NUMBERS_BEHIND or len(behind) != NUMBERS_BEHIND[word]:
        raise NoLine("the line is none that a desk knows")
    if not all([is_number(number) for number in behind]):
        raise NoLine("a number is not written as one")
    return (word, [number_in(number) for number in behind])


def unlike(places):
    if places[0] == places[1]:
        raise NoNumber("two unlike places are due")
    return places
