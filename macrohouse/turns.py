"""Turns: the maker comes to one place after another."""

from macrohouse.errors import TwoClaims
from macrohouse.forms import CORE_WORDS, come_to_form
from macrohouse.trees import Figure, Row, is_name
from macrohouse.uses import come_to_use


def make(maker, delays=None):
    given = [] if delays is None else delays
    turns = 0
    while len(maker.waiting) > 0:
        turn(maker, given[turns] if turns < len(given) else 0)
        turns += 1
    return turns


def turn(maker, pick):
    if len(maker.waiting) > 0:
        index = pick % len(maker.waiting)
        standing = come_to(maker, maker.waiting[index])
        maker.waiting.pop(index)
        for spot in reversed(standing):
            maker.waiting.insert(index, spot)


def come_to(maker, spot):
    try:
        return come_to_tree(maker, spot)
    except TwoClaims as error:
        # Wrong like other things, so that it stops nothing else.
        return spot.failed("TwoClaims", str(error), error.at, error.other)


def come_to_tree(maker, spot):
    if isinstance(spot.tree, Figure):
        return spot.done(("num", spot.tree.number))
    if isinstance(spot.tree, Row):
        return come_to_row(maker, spot)
    return come_to_word(maker, spot)


def come_to_word(maker, spot):
    word = spot.tree
    if not is_name(word):
        return spot.failed("BadForm", "a word that is no name", word.at)
    number = maker.ask(word)
    meaning = maker.meaning_of(number)
    if meaning is None and word.name in CORE_WORDS:
        return spot.failed("BadForm", "a core word alone", word.at)
    if meaning is not None and meaning[0] == "macro":
        return spot.failed("BadForm", "a macro's name alone", word.at)
    spot.answer = (word.name, word.at, word.bits, number)
    return spot.done(("free", word.name) if meaning is None else meaning)


def come_to_row(maker, spot):
    parts = spot.tree.parts
    if len(parts) == 0:
        return spot.failed("BadForm", "a row without parts", spot.tree.at)
    if is_name(parts[0]):
        meaning = maker.meaning(parts[0])
        if meaning is not None and meaning[0] == "macro":
            return come_to_use(maker, spot, meaning[1])
        if meaning is None and parts[0].name in CORE_WORDS:
            return come_to_form(maker, spot)
    return spot.parted(("call",), parts)
