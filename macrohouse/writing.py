"""Items written as a text again."""

from macrohouse.cores import inner_cores
from macrohouse.naming import names_of
from macrohouse.reader import shown
from macrohouse.trees import Figure, Row, Word


def written(items):
    names = names_of(items)
    return shown(row_of([word_of("part"), word_of("main")] + [item_tree(item, names) for item in items]))


# The trees are only shown, so that it does not matter where they stand.
def row_of(parts):
    return Row(parts, 0)


def word_of(name):
    return Word(name, 0)


def item_tree(item, names):
    told = [word_of("def"), word_of(names[item[1]])] if item[0] == "def" else [word_of("show")]
    return row_of(told + [core_tree(item[-1], names)])


def core_tree(core, names):
    if core[0] == "num":
        return Figure(core[1], 0)
    if core[0] == "free":
        return word_of(core[1])
    if core[0] == "seen":
        return word_of(names[core[1]])
    return row_of(head_trees(core, names) + [core_tree(inner, names) for inner in inner_cores(core)])


# What stands in a row ahead of the cores within it.
def head_trees(core, names):
    if core[0] == "call":
        return []
    if core[0] == "fn":
        return [word_of("fn"), row_of([word_of(names[param[0]]) for param in core[1]])]
    return [word_of(core[0])]
