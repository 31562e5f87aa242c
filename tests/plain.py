"""What the tests share: trees told as plain tuples, so that two can be held against each other."""

import re

from macrohouse.trees import Figure, Row, Word


def plain(tree):
    """The whole tree, with every field."""
    common = (tree.at, tree.many, tree.deep)
    if isinstance(tree, Word):
        return ("word", tree.name, tree.bits) + common
    if isinstance(tree, Figure):
        return ("figure", tree.number) + common
    assert isinstance(tree, Row), tree
    return ("row", [plain(part) for part in tree.parts]) + common


def shape(tree):
    """The tree without `at` and sets: what [7] calls alike."""
    if isinstance(tree, Word):
        return tree.name
    if isinstance(tree, Figure):
        return tree.number
    return [shape(part) for part in tree.parts]


def refusal(function, *things):
    """The error with which a call is refused; None where it is not."""
    try:
        function(*things)
    except Exception as error:
        return error
    return None


def tree_of(text):
    """The one tree of a text in which a word may have its set behind a colon, as `x:5`."""
    trees = trees_of(text)
    assert len(trees) == 1, text
    return trees[0]


def trees_of(text):
    rows = [[]]
    begins = []
    for at, sign in enumerate(re.findall(r"[()]|[^() \n]+", text)):
        if sign == "(":
            rows.append([])
            begins.append(at)
        elif sign == ")":
            row = Row(rows.pop(), begins.pop())
            rows[-1].append(row)
        elif sign.lstrip("-").isdigit():
            rows[-1].append(Figure(int(sign), at))
        else:
            name, _, bits = sign.partition(":")
            rows[-1].append(Word(name, at, int(bits or "0")))
    assert len(rows) == 1, text
    return rows[0]


def seen(tree):
    """The text of which `tree_of` makes the tree."""
    if isinstance(tree, Word):
        return f"{tree.name}:{tree.bits}" if tree.bits else tree.name
    if isinstance(tree, Figure):
        return str(tree.number)
    return "(" + " ".join(seen(part) for part in tree.parts) + ")"


def things(found):
    """What was found, trees as `seen` tells them, at whatever depth of lists."""
    if isinstance(found, dict):
        return {key: things(thing) for key, thing in found.items()}
    if isinstance(found, list):
        return [things(thing) for thing in found]
    return seen(found)
