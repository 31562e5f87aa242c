"""Spots: the places to which the maker comes, and what it found at each of them."""


# One place of the outcome. Its methods give the list of those spots that stand
# from then on in the maker's list where it stood.
class Spot:
    def __init__(self, tree, depth):
        self.tree = tree
        self.depth = depth
        # What is done: the beginning of its core, to which the cores of the spots within belong.
        self.head = None
        self.inner = []
        # Of a word that is done: (name, at, bits, claim), as it was asked for.
        self.answer = None
        # What is wrong: (name of the refusal, words, at, other).
        self.wrong = None

    def done(self, head):
        self.head = head
        return []

    def parted(self, head, trees):
        self.head = head
        self.inner = [Spot(tree, self.depth + 1) for tree in trees]
        return list(self.inner)

    def changed(self, tree):
        self.tree = tree
        return [self]

    def failed(self, kind, words, at, other=None):
        self.wrong = (kind, words, at, other)
        return []
