"""From texts to signs and trees, and from trees to texts again."""

from macrohouse.errors import NoText
from macrohouse.trees import NO_NAMES, Figure, Row, Word

BRACKETS = ("(", ")")
LETTERS = "abcdefghijklmnopqrstuvwxyz"
FIGURES = "0123456789"
MOST_FIGURES = 60
MOST_DEEP = 60


def signs_of(text):
    signs = cut(text)
    for sign in signs:
        if not (sign in BRACKETS or is_word(sign) or is_number(sign)):
            raise NoText(f"neither bracket, word nor number: {sign!r}")
    return signs


def cut(text):
    apart = text.replace("(", " ( ").replace(")", " ) ").replace("\n", " ")
    # By the blank alone: a tab parts nothing, it makes its sign a wrong one.
    return [sign for sign in apart.split(" ") if sign != ""]


def is_word(sign):
    if sign in NO_NAMES:
        return True
    return sign[0] in LETTERS and all([letter in LETTERS or letter in FIGURES for letter in sign])


def is_number(sign):
    figures = sign[1:] if sign.startswith("-") else sign
    if not 1 <= len(figures) <= MOST_FIGURES:
        return False
    if not all([figure in FIGURES for figure in figures]):
        return False
    return figures[0] != "0" or sign == "0"


def read(text):
    trees = []
    # Of each row that is begun and not yet ended: its `at`, and the trees
    # ahead of it. A list, so that no depth of brackets is too much for calls.
    begun = []
    for at, sign in enumerate(signs_of(text)):
        if sign == "(":
            begun.append((at, trees))
            trees = []
            if len(begun) > MOST_DEEP:
                raise NoText("too many rows within one another")
        elif sign == ")":
            if len(begun) == 0:
                raise NoText("a closing bracket lacks its opening one")
            last = begun.pop()
            row = Row(trees, last[0])
            trees = last[1]
            trees.append(row)
        else:
            trees.append(leaf(sign, at))
    if len(begun) > 0:
        raise NoText("an opening bracket lacks its closing one")
    return trees


def leaf(sign, at):
    if is_word(sign):
        return Word(sign, at)
    return Figure(int(sign), at)


def shown(tree):
    return shown_all([tree])


def shown_all(trees):
    signs = []
    for tree in trees:
        put_signs(tree, signs)
    return " ".join(signs).replace("( ", "(").replace(" )", ")")


def put_signs(tree, signs):
    if isinstance(tree, Row):
        signs.append("(")
        for part in tree.parts:
            put_signs(part, signs)
        signs.append(")")
    elif isinstance(tree, Word):
        signs.append(tree.name)
    else:
        signs.append(str(tree.number))
