"""What the tests of the maker share."""

import unittest

from macrohouse.errors import HouseError
from macrohouse.maker import Maker
from macrohouse.outcome import outcome
from macrohouse.reader import read, signs_of
from macrohouse.turns import make


def put_in(text, most=40):
    """A maker with the text's trees, to which it has not come yet."""
    maker = Maker(most)
    for tree in read(text):
        maker.put(tree)
    return maker


def made(text, most=40, delays=None):
    maker = put_in(text, most)
    make(maker, delays)
    return maker


def cores_of(text, most=40, delays=None):
    return outcome(made(text, most, delays))


def told(text, most=40, delays=None):
    """The cores, or the refusal with its places."""
    try:
        return cores_of(text, most, delays)
    except HouseError as error:
        return (type(error), error.at, error.other)


def at_of(text, sign, count=0):
    """The number of a text's sign, the first one of those alike or a later one."""
    return [at for at, other in enumerate(signs_of(text)) if other == sign][count]


def num(number):
    return ("num", number)


def free(name):
    return ("free", name)


def seen_at(place):
    return ("seen", place)


def call(first, *others):
    return ("call", first, others)


def fn(params, body):
    """`params` as pairs, each written as `0x`: the place and the name."""
    return ("fn", tuple((int(param[0]), param[1:]) for param in params.split()), body)


class Making(unittest.TestCase):
    maxDiff = None

    def assert_core(self, text, core):
        self.assertEqual(cores_of(text), [core], text)

    def assert_wrong(self, text, kind, at, most=40, other=None):
        self.assertEqual(told(text, most), (kind, at, other), text)
