"""Houses: a text of parts, made to its items."""

from macrohouse.maker import Maker
from macrohouse.outcome import bare, outcome
from macrohouse.parts import enter
from macrohouse.reader import read
from macrohouse.turns import make


class House:
    def __init__(self, trees, maker, lines):
        # Copies, for the lists handed in stay the asker's to change.
        self.trees = list(trees)
        self.maker = maker
        self.lines = list(lines)


def made(text, most=40, delays=None):
    trees = read(text)
    maker = Maker(most)
    entries = enter(maker, trees)
    for entry in entries:
        maker.put(entry[-1])
    make(maker, delays)
    cores = outcome(maker)
    return House(trees, maker, [entry[:-1] + (core,) for entry, core in zip(entries, cores)])


def bare_items(items):
    return [bare_item(item) for item in items]


def bare_item(item):
    if item[0] == "def":
        return ("def", item[1], "", bare(item[3]))
    return ("show", bare(item[1]))
