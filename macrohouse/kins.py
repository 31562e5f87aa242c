"""Kins: the names of a text that can only be exchanged together."""

from macrohouse.reader import signs_of
from macrohouse.rules import variable_words, words_in
from macrohouse.trees import is_name, key_of


def kins(house):
    ties = Ties()
    tie_asked(ties, house.maker)
    for macro in house.maker.macros:
        for pattern, template in macro.rules:
            tie_rule(ties, pattern, template)
    # By what stands for a kin, in the order of the kins' first.
    groups = {}
    for tree in house.trees:
        for word in words_in(tree):
            if is_name(word):
                groups.setdefault(ties.end_of(word.at), []).append(word.at)
    fast = dict([(ties.end_of(at), True) for at in held_fast(house)])
    return (
        [ats for end, ats in groups.items() if end not in fast],
        [ats for end, ats in groups.items() if end in fast],
    )


# Names tied to one another, each told by its `at`.
class Ties:
    def __init__(self):
        # To a name another one of its kin; a name without one stands for its whole kin.
        self.links = {}

    def end_of(self, at):
        end = at
        while end in self.links:
            end = self.links[end]
        # Those passed by are tied to the end itself, so that no way grows long.
        passed = at
        while passed in self.links:
            following = self.links[passed]
            self.links[passed] = end
            passed = following
        return end

    def tie(self, one, other):
        end = self.end_of(one)
        other_end = self.end_of(other)
        if end != other_end:
            self.links[end] = other_end


def tie_asked(ties, maker):
    for asked in maker.asked:
        if asked[3] is not None:
            ties.tie(asked[1], maker.claims.rows[asked[3]][1])


def tie_rule(ties, pattern, template):
    found = dict([(key_of(pair[0]), pair[0].at) for pair in variable_words(pattern, 0)])
    for word in words_in(template):
        if key_of(word) in found:
            ties.tie(word.at, found[key_of(word)])


def held_fast(house):
    ats = [asked[1] for asked in house.maker.asked if asked[3] is None]
    for tree in house.trees:
        ats.extend([tree.parts[0].at, tree.parts[1].at])
        for item in tree.parts[2:]:
            ats.extend(held_in_item(item))
    return ats


def held_in_item(item):
    first = item.parts[0]
    ats = [first.at]
    if first.name == "use":
        ats.append(item.parts[1].at)
    if first.name in ("use", "tell"):
        pairs = item.parts[2:] if first.name == "use" else item.parts[1:]
        ats.extend([pair.parts[1].at for pair in pairs])
    return ats


def exchanged(text, ats, name):
    signs = signs_of(text)
    for at in ats:
        signs[at] = name
    return " ".join(signs)
