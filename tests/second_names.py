"""A second telling of names, kins and ways, slow and plain, to hold the program against."""

import itertools

from macrohouse.trees import Row, Word
from tests.second import inner_cores, slow_keys, way_of


def all_cores(core):
    return [core] + [each for inner in inner_cores(core) for each in all_cores(inner)]


def scopes_of(items):
    """Of each place in the order of [37]: (place, own name, cores of the scope, places told with it or within it,
    places told with it ahead of it)."""
    cores = [core for item in items for core in all_cores(item[-1])]
    tops = [(item[1], item[2]) for item in items if item[0] == "def"]
    told = [place for place, _ in tops] + [place for core in cores if core[0] == "fn" for place, _ in core[1]]
    found = [(place, name, cores, told, [top for top, _ in tops[:k]]) for k, (place, name) in enumerate(tops)]
    for core in cores:
        if core[0] == "fn":
            inside = [place for each in all_cores(core) if each[0] == "fn" for place, _ in each[1]]
            for k, (place, name) in enumerate(core[1]):
                found.append((place, name, all_cores(core[2]), inside, [param for param, _ in core[1][:k]]))
    return found


def slow_names(items):
    names = {}
    for place, name, scope, inside, ahead in scopes_of(items):
        for tail in itertools.chain([""], itertools.count(2)):
            if may_stand(f"{name}{tail}", scope, inside, ahead, names):
                names[place] = f"{name}{tail}"
                break
    return names


def may_stand(name, scope, inside, ahead, names):
    if name in [names[place] for place in ahead]:
        return False
    if ("free", name) in scope or name in [core[0] for core in scope if core[0] in ("fn", "pick", "now")]:
        return False
    outside = [core[1] for core in scope if core[0] == "seen" and core[1] not in inside]
    return name not in [names[place] for place in outside]


def numbered_anew(items):
    """The items with places as a house has them: those of defs first, then the others in order."""
    numbers = {}
    for place, *_ in scopes_of(items):
        numbers[place] = len(numbers)

    def anew(core):
        if core[0] == "seen":
            return ("seen", numbers[core[1]])
        if core[0] == "fn":
            return ("fn", tuple((numbers[place], name) for place, name in core[1]), anew(core[2]))
        if core[0] == "call":
            return ("call", anew(core[1]), tuple(anew(part) for part in core[2]))
        return (core[0],) + tuple(anew(part) for part in core[1:]) if core[0] in ("pick", "now") else core

    def anew_item(item):
        return ("def", numbers[item[1]], item[2], anew(item[3])) if item[0] == "def" else ("show", anew(item[1]))

    return [anew_item(item) for item in items]


def word_ats(tree):
    """The `at`s of a tree's words, to their names."""
    if isinstance(tree, Row):
        return {at: name for part in tree.parts for at, name in word_ats(part).items()}
    return {tree.at: tree.name} if isinstance(tree, Word) else {}


def slow_kins(house):
    """The kins by pairs that are put together again and again."""
    names = {at: name for tree in house.trees for at, name in word_ats(tree).items() if name not in ("*", "=")}
    groups = [{at} for at in names]
    for one, other in kin_pairs(house.maker):
        first = next(group for group in groups if one in group)
        second = next(group for group in groups if other in group)
        if first is not second:
            groups.remove(second)
            first |= second
    fast = set(fast_ats(house))
    groups = sorted(sorted(group) for group in groups)
    return [group for group in groups if not fast & set(group)], [group for group in groups if fast & set(group)]


def kin_pairs(maker):
    pairs = [(at, maker.claims.rows[claim][1]) for _, at, _, claim in maker.asked if claim is not None]
    for macro in maker.macros:
        for pattern, template in macro.rules:
            words = keyed_words(template)
            for key, at in keyed_words(pattern, True):
                pairs += [(at, other) for other_key, other in words if other_key == key]
    return pairs


def keyed_words(tree, pattern=False):
    if isinstance(tree, Row):
        if pattern and slow_keys(tree)[:1] and getattr(tree.parts[0], "name", "") == "=":
            return []
        return [pair for part in tree.parts for pair in keyed_words(part, pattern)]
    if isinstance(tree, Word) and tree.name != "*":
        return [((tree.name, tree.bits), tree.at)]
    return []


def fast_ats(house):
    for _, at, _, claim in house.maker.asked:
        if claim is None:
            yield at
    for tree in house.trees:
        yield from (tree.parts[0].at, tree.parts[1].at)
        for item in tree.parts[2:]:
            kind = item.parts[0].name
            yield item.parts[0].at
            if kind == "use":
                yield item.parts[1].at
            if kind in ("use", "tell"):
                yield from (pair.parts[1].at for pair in item.parts[1:] if isinstance(pair, Row))


def lead_back(house, name, at, bits):
    """Goes back along a word's way through the steps to the text: True where it comes to that very sign."""
    maker = house.maker
    sources = {step[4]: maker.macros[step[0]].rules[step[1]][1] for step in maker.steps}
    sources.update({step[5]: step[2] for step in maker.steps})
    for number in reversed(way_of(bits)):
        bits ^= 1 << number
        if number in sources and (name, at, bits) not in words_with_sets(sources[number]):
            return False
    return bits == 0 and any(word_ats(tree).get(at) == name for tree in house.trees)


def words_with_sets(tree):
    if isinstance(tree, Row):
        return [word for part in tree.parts for word in words_with_sets(part)]
    return [(tree.name, tree.at, tree.bits)] if isinstance(tree, Word) else []
