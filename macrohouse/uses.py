"""Uses of macros, each put in place in one step."""

from macrohouse.errors import GoesOn, NoFill
from macrohouse.fills import filled
from macrohouse.fits import fitted

MOST_SIGNS = 200
MOST_DEEP = 50


def come_to_use(maker, spot, number):
    row = spot.tree
    born = maker.stretch("born", row.at)
    lent = maker.stretch("lent", row.at)
    rules = maker.macros[number].rules
    choice = first_fitting(maker, rules, [part.marked(lent) for part in row.parts[1:]])
    if choice is None:
        return spot.failed("NoRule", "no rule fits", row.at)
    made = made_of(rules[choice[0]][1], choice[1], born)
    if made is None or spot.depth + made.deep > MOST_DEEP:
        return spot.failed("NoFill", "what would be made is uneven, too great or too deep", row.at)
    if len(maker.steps) >= maker.most:
        raise GoesOn("more steps than may be", row.at)
    maker.steps.append((number, choice[0], row, made, born, lent))
    return spot.changed(made)


# The number of the first rule that fits, and what was found; None where none fits.
def first_fitting(maker, rules, trees):
    for number, rule in enumerate(rules):
        found = fitted(rule[0], trees, lambda fixed, word: same_meaning(maker, fixed, word))
        if found is not None:
            return (number, found)
    return None


def same_meaning(maker, fixed, word):
    one = maker.meaning(fixed)
    other = maker.meaning(word)
    if one is None and other is None:
        return fixed.name == word.name
    return one == other


def made_of(template, found, born):
    try:
        return filled(template, found, born, MOST_SIGNS)
    except NoFill:
        return None
