"""Ways: the words of the outcome, and what they came through."""

from macrohouse.outcome import outcome_words
from macrohouse.sets import told


def words_of(house):
    return outcome_words(house.maker)


def trail(house, bits):
    return [house.maker.stretches[number] for number in told(bits)]
