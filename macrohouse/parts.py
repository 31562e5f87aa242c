"""Parts: what they claim, and what they hand on to those behind them."""

from macrohouse.errors import BadForm, NoName, TwoClaims
from macrohouse.forms import has_name_and_rules, rules_of
from macrohouse.rules import is_sign
from macrohouse.trees import Row, is_name


class Part:
    def __init__(self, at):
        # The `at` of its NAME, for a later part that has the same.
        self.at = at
        # To each name that is claimed in it the claimed word's `at`.
        self.claimed = {}
        # To each THEIRS its `at` and the meaning that is told so.
        self.handed = {}


def enter(maker, trees):
    earlier = {}
    lines = []
    for tree in trees:
        if not is_part(tree):
            raise BadForm("no part", tree.at)
        name = tree.parts[1].name
        part = Part(tree.parts[1].at)
        if name in earlier:
            raise TwoClaims(f"two parts called {name!r}", earlier[name].at, part.at)
        lines.extend(enter_items(maker, part, tree, earlier))
        # Only now, for a part can't use what it tells itself.
        earlier[name] = part
    return lines


def is_part(tree):
    return begins_with(tree, "part") and len(tree.parts) > 1 and is_name(tree.parts[1])


def begins_with(tree, name):
    return isinstance(tree, Row) and len(tree.parts) > 0 and is_sign(tree.parts[0], name)


def enter_items(maker, part, row, earlier):
    number = maker.stretch("part", row.at)
    rows = [tree.marked(number) for tree in row.parts[2:]]
    lines = []
    for item in rows:
        if not begins_with(item, "tell"):
            lines.extend(enter_item(maker, part, item, earlier))
    # Behind all claims of the part, so that a `tell` may stand ahead of what it tells.
    for item in rows:
        if begins_with(item, "tell"):
            enter_tell(maker, part, item)
    return lines


def enter_item(maker, part, item, earlier):
    if is_show(item):
        return [("show", item.parts[1])]
    if is_def(item):
        word = item.parts[1]
        claim_once(part, word)
        return [("def", maker.top(word), word.name, item.parts[2])]
    if is_macro(item):
        claim_once(part, item.parts[1])
        maker.tell(item.parts[1], rules_of(item.parts[2].parts))
    elif is_use(item):
        enter_use(maker, part, item, earlier)
    else:
        raise BadForm("no item", item.at)
    return []


def is_show(item):
    return begins_with(item, "show") and len(item.parts) == 2


def is_def(item):
    return begins_with(item, "def") and len(item.parts) == 3 and is_name(item.parts[1])


def is_macro(item):
    return begins_with(item, "mac") and len(item.parts) == 3 and has_name_and_rules(item)


def is_use(item):
    if not begins_with(item, "use") or len(item.parts) < 2 or not is_name(item.parts[1]):
        return False
    return all([is_pair(tree) for tree in item.parts[2:]])


def is_pair(tree):
    return isinstance(tree, Row) and len(tree.parts) == 2 and all([is_name(word) for word in tree.parts])


def claim_once(part, word):
    name = word.name
    if name in part.claimed:
        raise TwoClaims(f"{name!r} is claimed twice", part.claimed[name], word.at)
    part.claimed[name] = word.at


def enter_use(maker, part, item, earlier):
    source = item.parts[1]
    if source.name not in earlier:
        raise NoName("no earlier part is called so", source.at)
    handed = earlier[source.name].handed
    for pair in item.parts[2:]:
        mine = pair.parts[0]
        theirs = pair.parts[1]
        if theirs.name not in handed:
            raise NoName("that part tells nothing so", theirs.at)
        claim_once(part, mine)
        maker.claims.put(mine.name, mine.at, mine.bits, handed[theirs.name][1])


def enter_tell(maker, part, item):
    if not all([is_pair(tree) for tree in item.parts[1:]]):
        raise BadForm("no item", item.at)
    for pair in item.parts[1:]:
        mine = pair.parts[0]
        theirs = pair.parts[1]
        name = theirs.name
        meaning = maker.meaning(mine)
        if meaning is None:
            raise NoName("what is to be told has no claim", mine.at)
        if name in part.handed:
            raise TwoClaims(f"{name!r} is told twice", part.handed[name][0], theirs.at)
        part.handed[name] = (theirs.at, meaning)
