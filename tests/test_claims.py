import itertools
import random
import unittest

from macrohouse.claims import Claims
from macrohouse.errors import TwoClaims
from tests.plain import refusal

GREAT = 2 ** 19999


def slow_claim_of(rows, name, bits):
    """What [13] says, word for word: a number, None, or the pair (at, other)."""
    opened = [number for number, row in enumerate(rows) if row[0] == name and row[2] | bits == bits]
    if not opened:
        return None

    def proper(one, other):
        return rows[one][2] != rows[other][2] and rows[one][2] | rows[other][2] == rows[other][2]

    for number in opened:
        if all(proper(other, number) for other in opened if other != number):
            return number
    outer = [one for one in opened if not any(proper(one, other) for other in opened)]
    return (rows[outer[0]][1], rows[outer[1]][1])


def claims_of(*rows):
    claims = Claims()
    for row in rows:
        claims.put(*row)
    return claims


class PutTest(unittest.TestCase):
    def test_nothing_is_claimed_at_first(self):
        self.assertEqual(Claims().rows, [])
        self.assertIsNone(Claims().claim_of("a", 7))

    def test_numbers_rise_from_nought(self):
        claims = Claims()
        numbers = [claims.put("a", 5, 1, "m"), claims.put("a", 5, 1, "m"), claims.put("b", 0, 0, "n")]
        self.assertEqual(numbers, [0, 1, 2])
        for number in (claims.put("c", 1, 2, "m"), claims.claim_of("c", 2)):
            self.assertIs(type(number), int)

    def test_rows_hold_the_claims_as_tuples(self):
        claims = claims_of(("a", 5, 1, ("seen", 0)), ("b", 2, 6, ("macro", 3)))
        self.assertEqual(claims.rows, [("a", 5, 1, ("seen", 0)), ("b", 2, 6, ("macro", 3))])
        self.assertIs(type(claims.rows), list)
        for row in claims.rows:
            self.assertIs(type(row), tuple)

    def test_by_the_names_of_the_arguments(self):
        claims = Claims()
        self.assertEqual(claims.put(meaning=("seen", 1), bits=4, at=3, name="x"), 0)
        self.assertEqual(claims.rows, [("x", 3, 4, ("seen", 1))])
        self.assertEqual(claims.claim_of(bits=4, name="x"), 0)

    def test_asking_changes_no_rows(self):
        claims = claims_of(("a", 5, 1, "m"), ("a", 6, 2, "n"))
        before = list(claims.rows)
        for bits in range(4):
            refusal(claims.claim_of, "a", bits)
            claims.claim_of("b", bits)
        self.assertEqual(claims.rows, before)

    def test_two_know_nothing_of_each_other(self):
        one = Claims()
        other = Claims()
        one.put("a", 1, 0, "m")
        self.assertEqual(other.rows, [])
        self.assertIsNone(other.claim_of("a", 0))
        self.assertEqual(other.put("b", 1, 0, "m"), 0)
        self.assertIsNone(one.claim_of("b", 0))
        self.assertEqual(len(one.rows), 1)


class Asked(unittest.TestCase):
    def assert_two(self, claims, name, bits, at, other):
        error = refusal(claims.claim_of, name, bits)
        self.assertIs(type(error), TwoClaims)
        self.assertEqual((error.at, error.other), (at, other))


class ClaimOfTest(Asked):
    def test_none_open(self):
        claims = claims_of(("a", 1, 1, "m"), ("a", 2, 6, "m"), ("b", 3, 0, "m"))
        self.assertIsNone(claims.claim_of("a", 0))
        self.assertIsNone(claims.claim_of("a", 2))
        self.assertIsNone(claims.claim_of("a", 4))
        self.assertIsNone(claims.claim_of("c", 7))

    def test_one_open(self):
        claims = claims_of(("a", 1, 1, "m"), ("a", 2, 6, "m"), ("b", 3, 0, "m"))
        self.assertEqual(claims.claim_of("a", 1), 0)
        self.assertEqual(claims.claim_of("a", 3), 0)
        self.assertEqual(claims.claim_of("a", 6), 1)
        self.assertEqual(claims.claim_of("a", 14), 1)
        self.assertEqual(claims.claim_of("b", 0), 2)
        self.assertEqual(claims.claim_of("b", 9), 2)

    def test_the_empty_set_lies_open_to_each(self):
        claims = claims_of(("a", 1, 0, "m"))
        for bits in (0, 1, 6, GREAT):
            self.assertEqual(claims.claim_of("a", bits), 0)

    def test_the_widest_of_several_in_whatever_order_they_are_put(self):
        rows = (("a", 10, 0, "m"), ("a", 11, 1, "m"), ("a", 12, 3, "m"), ("a", 13, 7, "m"))
        for order in itertools.permutations(rows):
            claims = claims_of(*order)
            self.assertEqual(claims.claim_of("a", 7), order.index(rows[3]))
            self.assertEqual(claims.claim_of("a", 11), order.index(rows[2]))
            self.assertEqual(claims.claim_of("a", 13), order.index(rows[1]))
            self.assertEqual(claims.claim_of("a", 8), order.index(rows[0]))

    def test_one_in_which_all_lie_though_they_do_not_lie_in_one_another(self):
        claims = claims_of(("a", 1, 1, "m"), ("a", 2, 2, "m"), ("a", 3, 3, "m"))
        self.assertEqual(claims.claim_of("a", 3), 2)
        self.assertEqual(claims.claim_of("a", 7), 2)

    def test_two_alike_that_lie_in_a_third(self):
        claims = claims_of(("a", 1, 1, "m"), ("a", 2, 1, "m"), ("a", 3, 5, "m"))
        self.assertEqual(claims.claim_of("a", 5), 2)
        self.assert_two(claims, "a", 1, 1, 2)

    def test_names_know_nothing_of_each_other(self):
        claims = claims_of(("a", 1, 1, "m"), ("b", 2, 1, "m"), ("ab", 3, 3, "m"))
        self.assertEqual(claims.claim_of("a", 3), 0)
        self.assertEqual(claims.claim_of("b", 3), 1)
        self.assertEqual(claims.claim_of("ab", 3), 2)

    def test_what_is_put_later_counts_from_then_on(self):
        claims = claims_of(("a", 1, 1, "m"))
        self.assertEqual(claims.claim_of("a", 3), 0)
        claims.put("a", 2, 3, "m")
        self.assertEqual(claims.claim_of("a", 3), 1)
        claims.put("a", 3, 3, "m")
        self.assert_two(claims, "a", 3, 2, 3)

    def test_great_numbers(self):
        claims = claims_of(("a", 1, GREAT, "m"), ("a", 2, GREAT + 1, "m"), ("a", 3, 2 ** 64, "m"),
                           ("a", 4, 2 ** 63, "m"))
        self.assertEqual(claims.claim_of("a", GREAT + 2), 0)
        self.assertEqual(claims.claim_of("a", GREAT + 3), 1)
        self.assertEqual(claims.claim_of("a", 2 ** 64 + 1), 2)
        self.assertEqual(claims.claim_of("a", 2 ** 63 + 1), 3)
        self.assertIsNone(claims.claim_of("a", GREAT - 1 - 2 ** 64 - 2 ** 63))
        self.assert_two(claims, "a", GREAT * 2 - 1, 2, 3)

    def test_many_claims_of_one_name(self):
        claims = Claims()
        for number in range(5000):
            claims.put("x", number, 1 + 2 ** (number + 1), ("seen", number))
        for number in range(5000):
            self.assertEqual(claims.claim_of("x", 1 + 2 ** (number + 1)), number)


class TwoClaimsTest(Asked):
    def test_neither_lies_within_the_other(self):
        claims = claims_of(("a", 8, 1, "m"), ("a", 4, 2, "m"))
        self.assert_two(claims, "a", 3, 8, 4)

    def test_the_same_name_and_set(self):
        for bits in (0, 1, 6, GREAT):
            claims = claims_of(("a", 9, bits, "m"), ("a", 3, bits, "m"))
            self.assert_two(claims, "a", bits, 9, 3)
            self.assert_two(claims, "a", bits | 8, 9, 3)

    def test_the_same_name_set_and_place(self):
        self.assert_two(claims_of(("a", 9, 1, "m"), ("a", 9, 1, "m")), "a", 1, 9, 9)

    def test_those_within_others_are_not_told(self):
        claims = claims_of(("a", 1, 0, "m"), ("a", 2, 1, "m"), ("a", 3, 3, "m"), ("a", 4, 2, "m"), ("a", 5, 5, "m"))
        self.assert_two(claims, "a", 7, 3, 5)
        self.assert_two(claims, "a", 15, 3, 5)

    def test_the_first_and_the_second_put_of_three(self):
        rows = (("a", 7, 1, "m"), ("a", 5, 2, "m"), ("a", 6, 4, "m"))
        for order in itertools.permutations(rows):
            self.assert_two(claims_of(*order), "a", 7, order[0][1], order[1][1])

    def test_those_of_other_names_and_those_not_open_are_not_told(self):
        claims = claims_of(("b", 1, 3, "m"), ("a", 2, 8, "m"), ("a", 3, 1, "m"), ("b", 4, 1, "m"), ("a", 5, 2, "m"))
        self.assert_two(claims, "a", 3, 3, 5)

    def test_it_may_be_asked_on(self):
        claims = claims_of(("a", 8, 1, "m"), ("a", 4, 2, "m"))
        self.assert_two(claims, "a", 3, 8, 4)
        self.assert_two(claims, "a", 3, 8, 4)
        self.assertEqual(claims.claim_of("a", 1), 0)
        self.assertEqual(claims.claim_of("a", 2), 1)
        self.assertEqual(claims.put("a", 2, 3, "m"), 2)
        self.assertEqual(claims.claim_of("a", 3), 2)


class DrawnTest(unittest.TestCase):
    def test_against_the_words_of_the_document(self):
        source = random.Random(13)
        seen = {"none": 0, "one": 0, "two": 0}
        for _ in range(1500):
            claims = Claims()
            for number in range(source.randrange(7)):
                claims.put(source.choice("ab"), source.randrange(50), source.randrange(16), ("seen", number))
            for name, bits in itertools.product("ab", range(16)):
                self.hold(claims, name, bits, seen)
        self.assertGreater(min(seen.values()), 500)

    def hold(self, claims, name, bits, seen):
        expected = slow_claim_of(claims.rows, name, bits)
        if isinstance(expected, tuple):
            error = refusal(claims.claim_of, name, bits)
            self.assertIs(type(error), TwoClaims)
            self.assertEqual((error.at, error.other), expected)
            seen["two"] += 1
        else:
            self.assertEqual(claims.claim_of(name, bits), expected)
            seen["none" if expected is None else "one"] += 1


if __name__ == "__main__":
    unittest.main()
