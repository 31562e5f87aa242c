"""The forms of the core: fn, pick, now and mac."""

from macrohouse.errors import BadRule
from macrohouse.rules import check_rule
from macrohouse.trees import Row, is_name, key_of

CORE_WORDS = ("fn", "pick", "mac", "now")


def is_rule(tree):
    return isinstance(tree, Row) and len(tree.parts) == 2 and isinstance(tree.parts[0], Row)


def rules_of(rows):
    rules = []
    for row in rows:
        check_rule(row.parts[0], row.parts[1])
        rules.append((row.parts[0], row.parts[1]))
    return rules


def come_to_form(maker, spot):
    name = spot.tree.parts[0].name
    if name == "fn":
        return come_to_fn(maker, spot)
    if name == "mac":
        return come_to_mac(maker, spot)
    trees = spot.tree.parts[1:]
    if len(trees) != (3 if name == "pick" else 1):
        return bad_form(spot)
    return spot.parted((name,), trees)


def bad_form(spot):
    return spot.failed("BadForm", "a form of another make", spot.tree.at)


def come_to_fn(maker, spot):
    row = spot.tree
    if not is_fn(row):
        return bad_form(spot)
    number = maker.stretch("fn", row.at)
    params = []
    for word in row.parts[1].parts:
        params.append((maker.claim_place(word.marked(number)), word.name))
    return spot.parted(("fn", tuple(params)), [row.parts[2].marked(number)])


def is_fn(row):
    if len(row.parts) != 3 or not isinstance(row.parts[1], Row):
        return False
    words = row.parts[1].parts
    if not all([is_name(word) for word in words]):
        return False
    return len(set([key_of(word) for word in words])) == len(words)


def come_to_mac(maker, spot):
    row = spot.tree
    if not is_mac(row):
        return bad_form(spot)
    try:
        rules = rules_of(row.parts[2].parts)
    except BadRule as error:
        return spot.failed("BadRule", "a bad rule", error.at)
    number = maker.stretch("mac", row.at)
    marked = [(pattern.marked(number), template.marked(number)) for pattern, template in rules]
    maker.tell(row.parts[1].marked(number), marked)
    return spot.changed(row.parts[3].marked(number))


def is_mac(row):
    return len(row.parts) == 4 and has_name_and_rules(row)


def has_name_and_rules(row):
    if not is_name(row.parts[1]) or not isinstance(row.parts[2], Row):
        return False
    return all([is_rule(rule) for rule in row.parts[2].parts])
