"""Drawn texts: the maker against a second telling, in whatever order it goes on."""

import unittest

from macrohouse.errors import BadForm, BadRule, GoesOn, HouseError, NoFill, NoRule
from macrohouse.maker import Maker
from macrohouse.outcome import outcome, outcome_words
from macrohouse.reader import read
from macrohouse.trees import Word
from macrohouse.turns import make
from tests.drawing import drawn_texts
from tests.making import made, put_in, told
from tests.plain import plain, tree_of
from tests.second import Second, way_of


class OrderTest(unittest.TestCase):
    maxDiff = None

    def test_a_second_telling_and_many_orders(self):
        kinds = {}
        steps = 0
        for drawer, text in drawn_texts(1, 2500):
            most = drawer.source.choice([2, 6, 12, 12])
            second = Second(most)
            expected = second.outcome(read(text))
            self.assertEqual(told(text, most), expected, text)
            kind = expected[0] if isinstance(expected, tuple) else None
            kinds[kind] = kinds.get(kind, 0) + 1
            steps += second.steps
            for _ in range(4):
                self.hold(text, most, drawer.delays(), expected)
        self.assertEqual(set(kinds), {None, BadForm, BadRule, GoesOn, NoFill, NoRule})
        self.assertGreater(min(kinds.values()), 10, kinds)
        self.assertGreater(steps, 1500)

    def hold(self, text, most, delays, expected):
        other = told(text, most, delays)
        if isinstance(expected, tuple) and expected[0] is GoesOn:
            self.assertIs(other[0], GoesOn, (text, delays))
        else:
            self.assertEqual(other, expected, (text, delays))

    def test_counted_orders(self):
        texts = (
            "(mac or (((a b) ((fn (t) (pick t t b)) a))) (fn (t) (or (or t 1) (or 2 t))))",
            "(mac m (((a *) (f a * (fn (x) (x a *))))) ((m x (m y)) (fn (x) (m x))))",
            "(mac m (((a) (a ())) ((a b) (fn (b b) a))) ((m 1) (m 2 x) (m 1 2 3)))",
        )
        for text in texts:
            expected = told(text)
            for number in range(3 ** 6):
                delays = [number // 3 ** power % 3 for power in range(6)]
                self.assertEqual(told(text, delays=delays), expected, delays)

    def test_steps_are_as_many_in_each_order(self):
        for drawer, text in drawn_texts(2, 300):
            most = 8
            if isinstance(told(text, most), tuple) and told(text, most)[0] is GoesOn:
                continue
            steps = len(made(text, most).steps)
            for _ in range(3):
                self.assertEqual(len(made(text, most, drawer.delays()).steps), steps, text)


class PlacesTest(unittest.TestCase):
    def test_the_plain_walk_tells_the_same(self):
        claimed = 0
        for drawer, text in drawn_texts(3, 600):
            maker = put_in(text, 12)
            try:
                make(maker, drawer.delays())
            except GoesOn:
                continue
            claimed += self.hold_walks(maker, text)
        self.assertGreater(claimed, 1000)

    def hold_walks(self, maker, text):
        rows = maker.claims.rows
        ways = {(row[0], way_of(row[2])): number for number, row in enumerate(rows)}
        self.assertEqual(len(ways), len(rows))
        for name, _, bits, claim in maker.asked:
            way = way_of(bits)
            walked = [ways[(name, way[:length])] for length in range(len(way) + 1) if (name, way[:length]) in ways]
            self.assertEqual(claim, walked[-1] if walked else None, text)
        return len([entry for entry in maker.asked if entry[3] is not None])

    def test_with_top_places_and_macros_in_two_stretches(self):
        claimed = 0
        for drawer, text in drawn_texts(5, 400):
            expected = self.outcome_with_tops(text, [], Maker(12))
            for _ in range(3):
                maker = Maker(12)
                self.assertEqual(self.outcome_with_tops(text, drawer.delays(), maker), expected, text)
                if expected != GoesOn:
                    claimed += self.hold_walks(maker, text)
        self.assertGreater(claimed, 1000)

    def outcome_with_tops(self, text, delays, maker):
        for number in (0, 1):
            maker.stretch("part", 1000 * number)
        for at, word in enumerate((Word("x", 0, 1), Word("y", 0, 2), Word("z", 0), Word("z", 0, 2))):
            self.assertEqual(maker.top(word), at)
        maker.tell(Word("e", 900, 2), [(tree_of("(x:2 *)"), tree_of("(z:2 x:2 * y:2)"))])
        for number in (0, 1):
            for tree in read(text):
                maker.put(tree.marked(number))
        try:
            make(maker, delays)
        except GoesOn:
            return GoesOn
        try:
            return outcome(maker)
        except HouseError as error:
            return (type(error), error.at, error.other)

    def test_what_the_maker_holds(self):
        for drawer, text in drawn_texts(4, 400):
            trees = read(text)
            before = [plain(tree) for tree in trees]
            maker = Maker(12)
            for tree in trees:
                maker.put(tree)
            try:
                make(maker, drawer.delays())
            except GoesOn:
                continue
            self.hold(maker)
            self.assertEqual([plain(tree) for tree in trees], before)
            if isinstance(told(text, 12), list):
                for word in outcome_words(maker):
                    self.assertIn(word, maker.asked)
                self.assertEqual(outcome(maker), told(text, 12))

    def hold(self, maker):
        for number, rule, use, result, born, lent in maker.steps:
            macro = maker.macros[number]
            self.assertLess(rule, len(macro.rules))
            self.assertEqual(use.parts[0].name, macro.name)
            self.assertEqual(maker.stretches[born], ("born", use.at))
            self.assertEqual(maker.stretches[lent], ("lent", use.at))
            self.assertEqual(lent, born + 1)
            for word in words_of(result):
                self.assertEqual((word.bits >> born & 1) + (word.bits >> lent & 1), 1)
            for word in words_of(use):
                self.assertEqual(word.bits >> born, 0)
        for number, macro in enumerate(maker.macros):
            self.assertIn((macro.name, macro.at, macro.bits, ("macro", number)), maker.claims.rows)
        for entry in maker.asked:
            self.assertEqual([type(part) for part in entry[:3]], [str, int, int])


def words_of(tree):
    if hasattr(tree, "parts"):
        return [word for part in tree.parts for word in words_of(part)]
    return [tree] if hasattr(tree, "bits") else []


if __name__ == "__main__":
    unittest.main()
