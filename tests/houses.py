"""What the tests of houses share."""

import re
import unittest

from macrohouse.errors import HouseError
from macrohouse.house import made
from macrohouse.machine import run


def marks(text):
    """A text in which the sign that a refusal is `at` has a `!` ahead, and its `other` a `?`: the text without
    these, and the numbers of the signs."""
    places = {"!": None, "?": None}
    for number, sign in enumerate(re.findall(r"[!?]?(?:[()]|[^()! ?\n]+)", text)):
        if sign[0] in places:
            places[sign[0]] = number
    return text.replace("!", "").replace("?", ""), places["!"], places["?"]


def told_house(text, most=40, delays=None):
    """The items, or the refusal with its places."""
    try:
        return made(text, most, delays).lines
    except HouseError as error:
        return (type(error), error.at, error.other)


def ran(text, fuel=200, most=40):
    return run(made(text, most).lines, fuel)


class Houses(unittest.TestCase):
    maxDiff = None

    def assert_refused(self, kind, marked, most=40):
        text, at, other = marks(marked)
        self.assertEqual(told_house(text, most), (kind, at, other), text)

    def assert_runs(self, text, answers, fuel=200):
        self.assertEqual(ran(text, fuel), answers, text)
