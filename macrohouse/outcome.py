"""The outcome: the cores of what is done, or the refusal of what is wrong."""

from macrohouse.cores import inner_cores, with_inner
from macrohouse.errors import BadForm, BadRule, NoFill, NoRule, TwoClaims


def outcome(maker):
    numbers = Numbers(maker.tops)
    return [core_of(spot, numbers) for spot in maker.roots]


# Places numbered anew, in the order in which they are come by.
class Numbers:
    def __init__(self, tops):
        self.anew = dict([(place, place) for place in tops])
        self.least = 1 + max(tops, default=-1)

    def numbered(self, place):
        if place not in self.anew:
            self.anew[place] = self.least
            self.least += 1
        return self.anew[place]


def core_of(spot, numbers):
    # From left to right and, of a fn, its P's first: so the first thing that
    # is wrong is come by first, and places are numbered in their order.
    if spot.wrong is not None:
        refuse(spot.wrong[0], spot.wrong[1], spot.wrong[2], spot.wrong[3])
    kind = spot.head[0]
    if kind == "seen":
        return ("seen", numbers.numbered(spot.head[1]))
    if kind == "fn":
        params = tuple([(numbers.numbered(place), name) for place, name in spot.head[1]])
        return ("fn", params, core_of(spot.inner[0], numbers))
    cores = [core_of(part, numbers) for part in spot.inner]
    if kind == "call":
        return ("call", cores[0], tuple(cores[1:]))
    return spot.head + tuple(cores)


def refuse(kind, words, at, other):
    if kind == "BadRule":
        raise BadRule(words, at, other)
    if kind == "NoRule":
        raise NoRule(words, at, other)
    if kind == "NoFill":
        raise NoFill(words, at, other)
    if kind == "TwoClaims":
        raise TwoClaims(words, at, other)
    raise BadForm(words, at, other)


def outcome_words(maker):
    return words_of_spots(maker.roots)


def words_of_spots(spots):
    words = []
    for spot in spots:
        if spot.answer is not None:
            words.append(spot.answer)
        words.extend(words_of_spots(spot.inner))
    return words


def bare(core):
    inner = [bare(part) for part in inner_cores(core)]
    if core[0] == "fn":
        return ("fn", tuple([(param[0], "") for param in core[1]]), inner[0])
    return with_inner(core, inner)
