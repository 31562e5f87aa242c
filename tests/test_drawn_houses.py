"""Drawn houses: against a second telling, in whatever order the maker goes on."""

import unittest

from macrohouse.ahead import ahead
from macrohouse.errors import BadForm, BadRule, GoesOn, NoAhead, NoFill, NoName, NoRule, TwoClaims
from macrohouse.house import made
from macrohouse.machine import run
from macrohouse.reader import read
from tests.drawing import drawn_houses
from tests.houses import told_house
from tests.plain import plain
from tests.second import way_of
from tests.second_house import SecondHouse


def whole_houses(seed, count, most=12):
    """Those of the drawn houses of which nothing is refused."""
    for drawer, text in drawn_houses(seed, count):
        if isinstance(told_house(text, most), list):
            yield drawer, text


class OrderTest(unittest.TestCase):
    maxDiff = None

    def test_a_second_telling_and_many_orders(self):
        kinds = {}
        steps = 0
        for drawer, text in drawn_houses(1, 2500):
            most = drawer.source.choice([2, 6, 12, 12])
            second = SecondHouse(most)
            expected = second.house(text)
            self.assertEqual(told_house(text, most), expected, text)
            kind = expected[0] if isinstance(expected, tuple) else None
            kinds[kind] = kinds.get(kind, 0) + 1
            steps += second.steps
            for _ in range(2):
                self.hold(text, most, drawer.delays(), expected)
        self.assertEqual(set(kinds), {None, BadForm, BadRule, GoesOn, NoFill, NoRule, NoName, TwoClaims})
        self.assertGreater(min(kinds.values()), 4, kinds)
        self.assertGreater(kinds[None], 1000)
        self.assertGreater(steps, 1000)

    def hold(self, text, most, delays, expected):
        other = told_house(text, most, delays)
        if isinstance(expected, tuple) and expected[0] is GoesOn:
            self.assertIs(other[0], GoesOn, (text, delays))
        else:
            self.assertEqual(other, expected, (text, delays))

    def test_most_met_exactly_and_passed_by_one(self):
        count = 0
        for drawer, text in whole_houses(2, 800):
            steps = len(made(text, 12).maker.steps)
            if steps:
                count += 1
                self.assertEqual(told_house(text, steps, drawer.delays()), told_house(text, 12))
                self.assertIs(told_house(text, steps - 1, drawer.delays())[0], GoesOn)
        self.assertGreater(count, 50)


class PlacesTest(unittest.TestCase):
    def test_the_plain_walk_tells_the_same(self):
        claimed = 0
        for drawer, text in whole_houses(3, 800):
            maker = made(text, 12, drawer.delays()).maker
            ways = {(row[0], way_of(row[2])): number for number, row in enumerate(maker.claims.rows)}
            self.assertEqual(len(ways), len(maker.claims.rows))
            for name, _, bits, claim in maker.asked:
                way = way_of(bits)
                begins = [(name, way[:length]) for length in range(len(way) + 1)]
                walked = [ways[begin] for begin in begins if begin in ways]
                self.assertEqual(claim, walked[-1] if walked else None, text)
                claimed += claim is not None
        self.assertGreater(claimed, 1000)

    def test_what_a_house_holds(self):
        for drawer, text in whole_houses(4, 400):
            house = made(text, 12, drawer.delays())
            self.assertEqual([plain(tree) for tree in house.trees], [plain(tree) for tree in read(text)])
            parts = [("part", tree.at) for tree in house.trees]
            self.assertEqual(house.maker.stretches[:len(parts)], parts)
            self.assertNotIn("part", [kind for kind, _ in house.maker.stretches[len(parts):]])
            tops = [line[1] for line in house.lines if line[0] == "def"]
            self.assertEqual(tops, list(range(len(tops))))


class RunTest(unittest.TestCase):
    def test_what_is_reckoned_ahead_runs_alike(self):
        counts = [0, 0]
        for _, text in whole_houses(5, 1500):
            lines = made(text, 12).lines
            try:
                told = ahead(lines, 20)
            except NoAhead:
                counts[0] += 1
                continue
            if run(lines, 20)[-1:] != [("on",)]:
                self.assertEqual(run(told, 20), run(lines, 20), text)
                counts[1] += told != lines
        self.assertGreater(min(counts), 5, counts)


if __name__ == "__main__":
    unittest.main()
