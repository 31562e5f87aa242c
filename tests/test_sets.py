import unittest

from macrohouse.sets import added, holds, told, within

GREAT = 19999


def members(bits):
    """The numbers of a set, found the slow way, from its figures."""
    figures = bin(bits)[2:][::-1]
    return [number for number, figure in enumerate(figures) if figure == "1"]


class AddedTest(unittest.TestCase):
    def test_the_empty_set_and_one_number(self):
        self.assertEqual(added(0, 0), 1)
        self.assertEqual(added(0, 1), 2)
        self.assertEqual(added(0, 5), 32)

    def test_a_number_joins_those_that_are_there(self):
        self.assertEqual(added(5, 1), 7)
        self.assertEqual(added(2, 0), 3)

    def test_a_number_that_is_there_stays(self):
        self.assertEqual(added(1, 0), 1)
        self.assertEqual(added(6, 2), 6)

    def test_great_numbers(self):
        bits = added(added(0, GREAT), 3)
        self.assertEqual(bits, 2 ** GREAT + 8)
        self.assertEqual(added(bits, GREAT), bits)

    def test_all_small_sets(self):
        for bits in range(64):
            for number in range(8):
                self.assertEqual(members(added(bits, number)), sorted(set(members(bits) + [number])))


class HoldsTest(unittest.TestCase):
    def test_the_empty_set_holds_nothing(self):
        for number in (0, 1, 2, 63, 64, GREAT):
            self.assertIs(holds(0, number), False)

    def test_all_small_sets(self):
        for bits in range(64):
            for number in range(8):
                self.assertIs(holds(bits, number), number in members(bits))

    def test_great_numbers(self):
        bits = 2 ** GREAT + 1
        self.assertIs(holds(bits, GREAT), True)
        self.assertIs(holds(bits, GREAT - 1), False)
        self.assertIs(holds(bits, GREAT + 1), False)
        self.assertIs(holds(bits, 0), True)


class WithinTest(unittest.TestCase):
    def test_the_empty_set_lies_within_each(self):
        for bits in (0, 1, 6, 2 ** GREAT):
            self.assertIs(within(0, bits), True)

    def test_nothing_but_the_empty_set_lies_within_the_empty_set(self):
        for bits in (1, 6, 2 ** GREAT):
            self.assertIs(within(bits, 0), False)

    def test_each_set_lies_within_itself(self):
        for bits in (1, 6, 2 ** GREAT + 5):
            self.assertIs(within(bits, bits), True)

    def test_all_small_sets(self):
        for one in range(32):
            for other in range(32):
                self.assertIs(within(one, other), set(members(one)) <= set(members(other)))

    def test_great_numbers(self):
        great = 2 ** GREAT
        self.assertIs(within(great, great + 1), True)
        self.assertIs(within(great + 1, great), False)
        self.assertIs(within(great, great - 1), False)
        self.assertIs(within(great // 2, great - 1), True)


class ToldTest(unittest.TestCase):
    def test_the_empty_set(self):
        self.assertEqual(told(0), [])

    def test_rising(self):
        self.assertEqual(told(1), [0])
        self.assertEqual(told(2), [1])
        self.assertEqual(told(1 + 4 + 32), [0, 2, 5])

    def test_all_small_sets(self):
        for bits in range(512):
            self.assertEqual(told(bits), members(bits))

    def test_great_numbers(self):
        self.assertEqual(told(2 ** GREAT + 2 ** 64 + 2 ** 63 + 1), [0, 63, 64, GREAT])
        self.assertEqual(told(2 ** GREAT - 1), list(range(GREAT)))

    def test_the_list_is_the_askers_own(self):
        first = told(7)
        first.append(99)
        first[0] = -1
        self.assertEqual(told(7), [0, 1, 2])

    def test_what_is_told_are_whole_numbers(self):
        for number in told(3) + [added(0, 0), added(1, 0)]:
            self.assertIs(type(number), int)

    def test_a_way_told_is_the_set_again(self):
        bits = 0
        for number in (4, 0, GREAT, 17):
            bits = added(bits, number)
        self.assertEqual(told(bits), [0, 4, 17, GREAT])


if __name__ == "__main__":
    unittest.main()
