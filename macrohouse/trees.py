"""Trees: words, figures and rows, each with its place in the text."""

from macrohouse.sets import added

NO_NAMES = ("*", "=")


class Tree:
    def __init__(self, at, many, deep):
        self.at = at
        self.many = many
        self.deep = deep


class Word(Tree):
    def __init__(self, name, at, bits=0):
        Tree.__init__(self, at, 1, 0)
        self.name = name
        self.bits = bits

    def marked(self, number):
        return Word(self.name, self.at, added(self.bits, number))


class Figure(Tree):
    def __init__(self, number, at):
        Tree.__init__(self, at, 1, 0)
        self.number = number

    def marked(self, number):
        return Figure(self.number, self.at)


class Row(Tree):
    def __init__(self, parts, at):
        many = 1 + sum([part.many for part in parts])
        deep = 1 + max([part.deep for part in parts], default=0)
        Tree.__init__(self, at, many, deep)
        # A copy, for the list handed in stays the asker's to change.
        self.parts = list(parts)

    def marked(self, number):
        return Row([part.marked(number) for part in self.parts], self.at)


def is_name(tree):
    return isinstance(tree, Word) and tree.name not in NO_NAMES


def key_of(word):
    return (word.name, word.bits)
