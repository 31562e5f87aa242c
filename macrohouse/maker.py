"""The maker: what it has taken, claimed and asked for, and the places to which it must still come."""

from macrohouse.claims import Claims
from macrohouse.spots import Spot


class Macro:
    def __init__(self, name, at, bits, rules):
        self.name = name
        self.at = at
        self.bits = bits
        # A copy, for the list handed in stays the asker's to change.
        self.rules = list(rules)


class Maker:
    def __init__(self, most=40):
        self.most = most
        self.claims = Claims()
        self.macros = []
        self.stretches = []
        self.steps = []
        self.asked = []
        # How many places there are, and the top ones among them.
        self.places = 0
        self.tops = []
        # The spots of the trees put in, and those to which it must still come.
        self.roots = []
        self.waiting = []

    def stretch(self, kind, at):
        self.stretches.append((kind, at))
        return len(self.stretches) - 1

    def ask(self, word):
        number = self.claims.claim_of(word.name, word.bits)
        self.asked.append((word.name, word.at, word.bits, number))
        return number

    def meaning(self, word):
        return self.meaning_of(self.ask(word))

    def meaning_of(self, number):
        return None if number is None else self.claims.rows[number][3]

    def place(self):
        number = self.places
        self.places = number + 1
        return number

    def claim_place(self, word):
        number = self.place()
        self.claims.put(word.name, word.at, word.bits, ("seen", number))
        return number

    def top(self, word):
        number = self.claim_place(word)
        self.tops.append(number)
        return number

    def tell(self, word, rules):
        number = len(self.macros)
        self.macros.append(Macro(word.name, word.at, word.bits, rules))
        self.claims.put(word.name, word.at, word.bits, ("macro", number))
        return number

    def put(self, tree):
        spot = Spot(tree, 0)
        self.roots.append(spot)
        self.waiting.append(spot)
