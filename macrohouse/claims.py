"""Claims: who tells a name, found by the sets of stretches."""

from macrohouse.errors import TwoClaims
from macrohouse.sets import told, within


class Claims:
    def __init__(self):
        self.rows = []
        # To each name, to the last number of a claim's set, the claims' numbers:
        # a set that lacks that number has none of them open to it, so of many
        # claims of one name few need be looked at.
        self.by_last = {}

    def put(self, name, at, bits, meaning):
        number = len(self.rows)
        self.rows.append((name, at, bits, meaning))
        numbers = self.by_last.setdefault(name, {})
        numbers.setdefault(last_of(bits), []).append(number)
        return number

    def claim_of(self, name, bits):
        numbers = self.open_to(name, bits)
        if len(numbers) == 0:
            return None
        union = 0
        for number in numbers:
            union = union | self.rows[number][2]
        # All others lie properly in one set just where it is the union, and alone in being so.
        widest = [number for number in numbers if self.rows[number][2] == union]
        if len(widest) == 1:
            return widest[0]
        outer = self.outermost(numbers)
        raise TwoClaims(f"two claims of {name!r}", self.rows[outer[0]][1], self.rows[outer[1]][1])

    def open_to(self, name, bits):
        if name not in self.by_last:
            return []
        by_last = self.by_last[name]
        numbers = list(by_last.get(None, []))
        for last in told(bits):
            numbers.extend([number for number in by_last.get(last, []) if within(self.rows[number][2], bits)])
        return sorted(numbers)

    def outermost(self, numbers):
        sets = [self.rows[number][2] for number in numbers]
        return [number for number in numbers if not in_another(self.rows[number][2], sets)]


def last_of(bits):
    return None if bits == 0 else bits.bit_length() - 1


def in_another(bits, sets):
    return any([bits != other and within(bits, other) for other in sets])
