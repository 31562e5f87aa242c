"""What the tests share: trees told as plain tuples, so that two can be held against each other."""

from macrohouse.trees import Figure, Row, Word


def plain(tree):
    """The whole tree, with every field."""
    common = (tree.at, tree.many, tree.deep)
    if isinstance(tree, Word):
        return ("word", tree.name, tree.bits) + common
    if isinstance(tree, Figure):
        return ("figure", tree.number) + common
    assert isinstance(tree, Row), tree
    return ("row", [plain(part) for part in tree.parts]) + common


def shape(tree):
    """The tree without `at` and sets: what [7] calls alike."""
    if isinstance(tree, Word):
        return tree.name
    if isinstance(tree, Figure):
        return tree.number
    return [shape(part) for part in tree.parts]


def refusal(function, *things):
    """The error with which a call is refused; None where it is not."""
    try:
        function(*things)
    except Exception as error:
        return error
    return None
