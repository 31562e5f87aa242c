"""Rules: what a pattern and a template are made of, and what is bad in them."""

from macrohouse.errors import BadRule
from macrohouse.trees import Row, Word, is_name, key_of


def is_sign(tree, name):
    return isinstance(tree, Word) and tree.name == name


def pieces(row):
    found = []
    starred = False
    for part in row.parts:
        if not is_sign(part, "*"):
            found.append((part, False))
        elif starred or len(found) == 0:
            raise BadRule("a star that may not stand there", row.at)
        else:
            starred = True
            found[-1] = (found[-1][0], True)
    return found


def fixed_word(tree):
    if not isinstance(tree, Row) or len(tree.parts) != 2:
        return None
    if is_sign(tree.parts[0], "=") and is_name(tree.parts[1]):
        return tree.parts[1]
    return None


# Asked of a piece's tree: whether that is a pattern again.
def is_pattern(tree):
    return isinstance(tree, Row) and fixed_word(tree) is None


def variables(pattern):
    return depths_of(variable_words(pattern, 0))


def depths_of(pairs):
    return dict([(key_of(word), depth) for word, depth in pairs])


# The variables in order, each with its depth, which counts the pieces with a star around the pattern too.
def variable_words(pattern, depth):
    pairs = []
    for tree, starred in pieces(pattern):
        inner = depth + 1 if starred else depth
        if is_name(tree):
            pairs.append((tree, inner))
        elif is_pattern(tree):
            pairs.extend(variable_words(tree, inner))
    return pairs


def check_rule(pattern, template):
    try:
        check_pieces(pattern)
    except BadRule as error:
        # Told by the row that is bad, but refused at the whole pattern.
        raise BadRule("a bad pattern", pattern.at) from error
    pairs = variable_words(pattern, 0)
    depths = depths_of(pairs)
    if len(depths) != len(pairs):
        raise BadRule("two variables with the same key", pattern.at)
    if has_bare(template, depths, 0):
        raise BadRule("a template's word that should be repeated", pattern.at)


def check_pieces(pattern):
    for piece in pieces(pattern):
        tree = piece[0]
        # This finds a row too that begins with the word `=` and is no fixed word.
        if isinstance(tree, Word) and not is_name(tree):
            raise BadRule("a word that is no name", pattern.at)
        if is_pattern(tree):
            check_pieces(tree)


# Whether a word counts for 1 or more where it stands, `level` repeated parts deep.
# In each repeated part all variables that count for 1 or more count for one less,
# so one counts for what its depth has more than `level`.
def has_bare(template, depths, level):
    if not isinstance(template, Row):
        return counts(template, depths, level)
    for part, repeated in template_parts(template, lambda word: counts(word, depths, level)):
        if has_bare(part, depths, level + 1 if repeated else level):
            return True
    return False


def counts(tree, depths, level):
    return isinstance(tree, Word) and depths.get(key_of(tree), 0) > level


# The parts of a template's row, each with a truth: whether it is repeated. `counting`
# tells of a word whether it is a variable that counts for 1 or more there.
def template_parts(row, counting):
    found = []
    repeated = False
    for index, part in enumerate(row.parts):
        if repeated:
            # The star that belongs to the part ahead of it.
            repeated = False
        else:
            repeated = star_at(row, index + 1) and has_word(part, counting)
            found.append((part, repeated))
    return found


def star_at(row, index):
    return index < len(row.parts) and is_sign(row.parts[index], "*")


def has_word(tree, wanted):
    return any([wanted(word) for word in words_in(tree)])


def words_in(tree):
    if isinstance(tree, Word):
        return [tree]
    words = []
    if isinstance(tree, Row):
        for part in tree.parts:
            words.extend(words_in(part))
    return words
