"""Sets of stretches: whole numbers of which each bit that is set is a member."""


def added(bits, number):
    return bits | (1 << number)


def holds(bits, number):
    return (bits >> number) & 1 == 1


def within(one, other):
    return (one & other) == one


def told(bits):
    numbers = []
    left = bits
    # Sets have few members of great numbers: going from member to member
    # spares the many numbers between them.
    while left > 0:
        lowest = left & -left
        numbers.append(lowest.bit_length() - 1)
        left = left ^ lowest
    return numbers
