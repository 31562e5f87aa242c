"""Templates filled with what was found."""

from macrohouse.errors import NoFill
from macrohouse.rules import template_parts, words_in
from macrohouse.trees import Row, Word, key_of


def filled(template, found, number, most):
    filler = Filler(template.at, number, most)
    return filler.fill(template, found)


class Filler:
    def __init__(self, at, number, most):
        self.at = at
        self.number = number
        # How many signs may still be made: what would grow too great is left
        # off at once, however much would come.
        self.left = most

    def take(self, many):
        self.left = self.left - many
        if self.left < 0:
            raise NoFill("too many signs", self.at)

    def fill(self, tree, found):
        if isinstance(tree, Row):
            return self.fill_row(tree, found)
        made = tree
        if isinstance(tree, Word):
            key = key_of(tree)
            made = found[key] if key in found else tree.marked(self.number)
        self.take(made.many)
        return made

    def fill_row(self, row, found):
        self.take(1)
        parts = []
        for part, repeated in template_parts(row, lambda word: is_list(found.get(key_of(word)))):
            if repeated:
                parts.extend(self.fill_repeated(part, found))
            else:
                parts.append(self.fill(part, found))
        return Row(parts, row.at)

    def fill_repeated(self, part, found):
        inner = dict([(key_of(word), found[key_of(word)]) for word in words_in(part) if key_of(word) in found])
        lengths = [len(thing) for thing in inner.values() if is_list(thing)]
        if min(lengths) != max(lengths):
            raise NoFill("lists of unlike length", self.at)
        return [self.fill(part, found_at(inner, place)) for place in range(lengths[0])]


def is_list(thing):
    return isinstance(thing, list)


def found_at(found, place):
    return dict([(key, thing[place] if is_list(thing) else thing) for key, thing in found.items()])
