"""Whether trees fit a pattern, and what is found of them."""

from macrohouse.rules import fixed_word, is_pattern, pieces, variables
from macrohouse.trees import Figure, Row, is_name, key_of


def fitted(pattern, trees, same):
    shares = shared_out(pieces(pattern), trees)
    if shares is None:
        return None
    found = {}
    for tree, starred, share in shares:
        several = fitted_each(tree, share, same)
        if several is None:
            return None
        if starred:
            found.update(listed(tree, several))
        else:
            found.update(several[0])
    return found


# To each piece the trees that it takes; None where there are too few or too many.
def shared_out(wanted, trees):
    more = len(trees) - len(wanted)
    stars = len([tree for tree, starred in wanted if starred])
    if more + stars < 0 or (stars == 0 and more > 0):
        return None
    shares = []
    begin = 0
    for tree, starred in wanted:
        end = begin + 1 + (more if starred else 0)
        shares.append((tree, starred, trees[begin:end]))
        begin = end
    return shares


def fitted_each(piece, trees, same):
    several = []
    for tree in trees:
        found = fitted_one(piece, tree, same)
        if found is None:
            return None
        several.append(found)
    return several


def fitted_one(piece, tree, same):
    if is_name(piece):
        return {key_of(piece): tree}
    if is_pattern(piece):
        return fitted(piece, tree.parts, same) if isinstance(tree, Row) else None
    return {} if fits_plain(piece, tree, same) else None


def fits_plain(piece, tree, same):
    if isinstance(piece, Figure):
        return isinstance(tree, Figure) and tree.number == piece.number
    return is_name(tree) and same(fixed_word(piece), tree)


# What was found in each tree, put together to a list for each variable of the piece.
def listed(piece, several):
    return dict([(key, [found[key] for found in several]) for key in keys_in(piece)])


def keys_in(piece):
    if is_name(piece):
        return [key_of(piece)]
    # Asked of the piece and not of what was found, for it may have taken no tree.
    return list(variables(piece)) if is_pattern(piece) else []
