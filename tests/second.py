"""A second telling of what the document says, slow and plain, to hold the program against."""

from macrohouse.errors import BadForm, BadRule, GoesOn, NoFill, NoRule
from macrohouse.rules import check_rule, variables
from macrohouse.trees import Figure, Row, Word, is_name, key_of
from tests.plain import seen


def slow_fitted(pattern, trees, same):
    """A second telling of [18] and [19]: first the pairs of pieces and trees, then what is found."""
    parts = pattern.parts
    stars = [k for k, part in enumerate(parts) if isinstance(part, Word) and part.name == "*"]
    if not stars:
        pairs = list(zip(parts, trees))
        if len(parts) != len(trees):
            return None
    else:
        ahead, piece, behind = parts[:stars[0] - 1], parts[stars[0] - 1], parts[stars[0] + 1:]
        middle = len(trees) - len(ahead) - len(behind)
        if middle < 0:
            return None
        pairs = list(zip(ahead + [piece] * middle + behind, trees))
    found = {}
    if stars:
        keys = variables(Row([piece], 0))
        found = {key: [] for key in keys}
    for number, (one, tree) in enumerate(pairs):
        inner = slow_one(one, tree, same)
        if inner is None:
            return None
        for key, thing in inner.items():
            if stars and stars[0] - 1 <= number < stars[0] - 1 + middle:
                found[key].append(thing)
            else:
                found[key] = thing
    return found


def slow_one(piece, tree, same):
    if is_name(piece):
        return {key_of(piece): tree}
    if isinstance(piece, Figure):
        return {} if seen(piece) == seen(tree) else None
    if piece.parts and isinstance(piece.parts[0], Word) and piece.parts[0].name == "=":
        return {} if is_name(tree) and same(piece.parts[1], tree) else None
    return slow_fitted(piece, tree.parts, same) if isinstance(tree, Row) else None


def slow_filled(tree, depths, found, number):
    """A second telling of [20] by the variables' depths; None where lists are of unlike length."""
    if isinstance(tree, Word):
        key = key_of(tree)
        return found[key] if key in depths else Word(tree.name, tree.at, tree.bits | 1 << number)
    if isinstance(tree, Figure):
        return tree
    parts = []
    left = list(tree.parts)
    while left:
        part = left.pop(0)
        keys = [key for key in depths if depths[key] > 0 and key in slow_keys(part)]
        if not (left and isinstance(left[0], Word) and left[0].name == "*" and keys):
            parts.append(slow_filled(part, depths, found, number))
            continue
        left.pop(0)
        inner = {key: max(0, depth - 1) for key, depth in depths.items()}
        if len({len(found[key]) for key in keys}) != 1:
            return None
        for place in range(len(found[keys[0]])):
            narrowed = {key: found[key][place] if key in keys else found[key] for key in found}
            parts.append(slow_filled(part, inner, narrowed, number))
    return None if None in parts else Row(parts, tree.at)


def slow_keys(tree):
    if isinstance(tree, Row):
        return [key for part in tree.parts for key in slow_keys(part)]
    return [key_of(tree)] if isinstance(tree, Word) else []


def way_of(bits):
    return tuple(number for number in range(bits.bit_length()) if bits >> number & 1)


class Stop(Exception):
    """GoesOn, told by the second telling."""


class Second:
    """Makes trees by calls of itself, from the outside in and from left to right, and finds what a word
    means by the plain walk along its way [3]."""

    def __init__(self, most):
        self.most = most
        self.steps = 0
        self.stretches = 0
        self.places = 0
        self.claims = {}

    def outcome(self, trees):
        try:
            cores = [self.come(tree, 0) for tree in trees]
        except Stop as stop:
            return (GoesOn, stop.args[0], None)
        for core in cores:
            wrong = first_wrong(core)
            if wrong:
                return (wrong[0], wrong[1], None)
        numbers = {}
        return [numbered(core, numbers) for core in cores]

    def stretch(self):
        self.stretches += 1
        return self.stretches - 1

    def meaning(self, word):
        way = way_of(word.bits)
        for length in range(len(way), -1, -1):
            if (word.name, way[:length]) in self.claims:
                return self.claims[(word.name, way[:length])]
        return None

    def claim(self, word, meaning):
        self.claims[(word.name, way_of(word.bits))] = meaning

    def come(self, tree, depth):
        while True:
            if isinstance(tree, Figure):
                return ("num", tree.number)
            if isinstance(tree, Word):
                return self.come_to_word(tree)
            if not tree.parts:
                return wrong_core(BadForm, tree.at)
            first = tree.parts[0]
            meaning = self.meaning(first) if is_name(first) else ("none",)
            if meaning and meaning[0] == "macro":
                made = self.use(tree, meaning[1], depth)
            elif meaning is None and first.name == "mac":
                made = self.told_macro(tree)
            elif meaning is None and first.name in ("fn", "pick", "now"):
                return self.form(tree, first.name, depth)
            else:
                cores = [self.come(part, depth + 1) for part in tree.parts]
                return ("call", cores[0], tuple(cores[1:]))
            if isinstance(made, tuple):
                return made
            tree = made

    def come_to_word(self, word):
        if not is_name(word):
            return wrong_core(BadForm, word.at)
        meaning = self.meaning(word)
        if meaning is None:
            return wrong_core(BadForm, word.at) if word.name in ("fn", "pick", "mac", "now") else ("free", word.name)
        return wrong_core(BadForm, word.at) if meaning[0] == "macro" else meaning

    def form(self, row, name, depth):
        parts = row.parts[1:]
        if name != "fn":
            if len(parts) != {"pick": 3, "now": 1}[name]:
                return wrong_core(BadForm, row.at)
            return (name,) + tuple(self.come(part, depth + 1) for part in parts)
        if len(parts) != 2 or not isinstance(parts[0], Row) or not all(is_name(word) for word in parts[0].parts):
            return wrong_core(BadForm, row.at)
        if len({key_of(word) for word in parts[0].parts}) < len(parts[0].parts):
            return wrong_core(BadForm, row.at)
        number = self.stretch()
        params = []
        for word in parts[0].parts:
            params.append((self.places, word.name))
            self.claim(word.marked(number), ("seen", self.places))
            self.places += 1
        return ("fn", tuple(params), self.come(parts[1].marked(number), depth + 1))

    def told_macro(self, row):
        parts = row.parts[1:]
        if len(parts) != 3 or not is_name(parts[0]) or not isinstance(parts[1], Row):
            return wrong_core(BadForm, row.at)
        for rule in parts[1].parts:
            if not (isinstance(rule, Row) and len(rule.parts) == 2 and isinstance(rule.parts[0], Row)):
                return wrong_core(BadForm, row.at)
        for rule in parts[1].parts:
            try:
                check_rule(*rule.parts)
            except BadRule:
                return wrong_core(BadRule, rule.parts[0].at)
        number = self.stretch()
        self.claim(parts[0].marked(number), ("macro", [rule.marked(number).parts for rule in parts[1].parts]))
        return parts[2].marked(number)

    def use(self, row, rules, depth):
        born = self.stretch()
        lent = self.stretch()
        trees = [part.marked(lent) for part in row.parts[1:]]
        for pattern, template in rules:
            found = slow_fitted(pattern, trees, self.same)
            if found is not None:
                made = slow_filled(template, variables(pattern), found, born)
                if made is None or made.many > 200 or made.deep + depth > 50:
                    return wrong_core(NoFill, row.at)
                if self.steps == self.most:
                    raise Stop(row.at)
                self.steps += 1
                return made
        return wrong_core(NoRule, row.at)

    def same(self, fixed, word):
        one = self.meaning(fixed)
        other = self.meaning(word)
        if one is None or other is None:
            return one is None and other is None and fixed.name == word.name
        return one[0] == other[0] and (one[1] is other[1] or one == other)


def wrong_core(kind, at):
    return ("wrong", kind, at)


def inner_cores(core):
    if core[0] == "fn":
        return [core[2]]
    if core[0] == "call":
        return [core[1]] + list(core[2])
    return list(core[1:]) if core[0] in ("pick", "now") else []


def first_wrong(core):
    if core[0] == "wrong":
        return core[1:]
    for inner in inner_cores(core):
        wrong = first_wrong(inner)
        if wrong:
            return wrong
    return None


def numbered(core, numbers):
    if core[0] == "seen":
        return ("seen", numbers[core[1]])
    if core[0] == "fn":
        for place, _ in core[1]:
            numbers[place] = len(numbers)
        return ("fn", tuple((numbers[place], name) for place, name in core[1]), numbered(core[2], numbers))
    inner = [numbered(part, numbers) for part in inner_cores(core)]
    if core[0] == "call":
        return ("call", inner[0], tuple(inner[1:]))
    return (core[0],) + tuple(inner) if inner else core
