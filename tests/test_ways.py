"""The words of the outcome, and trails."""

import unittest

from macrohouse.house import made
from macrohouse.ways import trail, words_of
from tests.drawing import drawn_houses
from tests.houses import told_house
from tests.making import at_of
from tests.second import inner_cores, way_of

TEXT = "(part a (def x (f x)) (mac m (((p) (fn (t) (t p x)))))) (part b (show (g (fn (x) x) y)))"


def cores_with_words(core):
    """The words of an outcome, as its cores tell them."""
    if core[0] in ("free", "seen"):
        return [core]
    return [word for inner in inner_cores(core) for word in cores_with_words(inner)]


class WordsTest(unittest.TestCase):
    maxDiff = None

    def test_of_nothing(self):
        self.assertEqual(words_of(made("")), [])
        self.assertEqual(words_of(made("(part a (def x 1) (tell (x y)) (show 2) (show (fn (x) 3)))")), [])

    def test_in_the_order_of_the_outcome(self):
        self.assertEqual(words_of(made(TEXT)), [
            ("f", at_of(TEXT, "f"), 1, None), ("x", at_of(TEXT, "x", 1), 1, 0), ("g", at_of(TEXT, "g"), 2, None),
            ("x", at_of(TEXT, "x", 4), 6, 2), ("y", at_of(TEXT, "y"), 2, None),
        ])

    def test_they_are_told_as_they_were_asked_for(self):
        text = "(part a (mac m (((p) (fn (t) (t p q))))) (show (fn (t) (m t))))"
        house = made(text)
        self.assertEqual(words_of(house), [
            ("t", at_of(text, "t", 1), 0b10101, 2), ("t", at_of(text, "t", 3), 0b11011, 1),
            ("q", at_of(text, "q"), 0b10101, None),
        ])
        for word in words_of(house):
            self.assertIn(word, house.maker.asked)

    def test_first_words_of_forms_and_uses_are_none(self):
        house = made("(part a (mac m (((p) (pick p p p)))) (show (m (now 1))) (show (mac k ((() 1)) (k))))")
        self.assertEqual(words_of(house), [])

    def test_delays_change_neither_names_nor_places(self):
        text = "(part a (mac m (((p) (fn (t) (t p q))))) (show (fn (t) (m t))) (show (m (m z))))"
        expected = [(name, at, claim is None) for name, at, _, claim in words_of(made(text))]
        for number in range(3 ** 5):
            house = made(text, delays=[number // 3 ** power % 3 for power in range(5)])
            self.assertEqual([(name, at, claim is None) for name, at, _, claim in words_of(house)], expected)

    def test_drawn_houses(self):
        count = 0
        for drawer, text in drawn_houses(21, 600):
            if isinstance(told_house(text, 12), list):
                house = made(text, 12, drawer.delays())
                cores = [word for line in house.lines for word in cores_with_words(line[-1])]
                words = words_of(house)
                self.assertEqual(len(words), len(cores), text)
                for word, core in zip(words, cores):
                    self.assertEqual(word[3] is None, core[0] == "free", text)
                    self.assertTrue(core[0] == "seen" or core[1] == word[0], text)
                count += len(words)
        self.assertGreater(count, 500)

    def test_a_new_list_each_time(self):
        house = made(TEXT)
        words_of(house).clear()
        self.assertEqual(len(words_of(house)), 5)


class TrailTest(unittest.TestCase):
    text = "(part a (mac m (((p) (fn (t) (t p))))) (show (mac k (((p) (m p))) (k (m 1)))) (show z))"

    def test_of_the_empty_set(self):
        self.assertEqual(trail(made(self.text), 0), [])
        self.assertEqual(trail(made(""), 0), [])

    def test_of_all_five_kinds(self):
        house = made(self.text)
        self.assertEqual({kind for kind, _ in house.maker.stretches}, {"part", "mac", "born", "lent", "fn"})
        whole = (1 << len(house.maker.stretches)) - 1
        self.assertEqual(trail(house, whole), house.maker.stretches)

    def test_their_rows(self):
        house = made(self.text)
        mac = at_of(self.text, "mac", 1) - 1
        use = at_of(self.text, "k", 1) - 1
        self.assertEqual(trail(house, 0b11), [("part", 0), ("mac", mac)])
        self.assertEqual(trail(house, 0b101), [("part", 0), ("born", use)])
        self.assertEqual(trail(house, 0b1000), [("lent", use)])

    def test_of_a_words_set(self):
        text = "(part a (mac m (((p) (fn (t) (t p))))) (show (fn (x) (m x)))) (part b (show y))"
        house = made(text)
        words = {word[:2]: word[2] for word in words_of(house)}
        form = at_of(text, "fn") - 1
        outer = at_of(text, "fn", 1) - 1
        use = at_of(text, "m", 1) - 1
        self.assertEqual(trail(house, words[("t", at_of(text, "t", 1))]), [("part", 0), ("born", use), ("fn", form)])
        self.assertEqual(trail(house, words[("x", at_of(text, "x", 1))]),
                         [("part", 0), ("fn", outer), ("lent", use), ("fn", form)])
        self.assertEqual(trail(house, words[("y", at_of(text, "y"))]), [("part", at_of(text, "part", 1) - 1)])

    def test_in_the_order_of_the_way(self):
        house = made(self.text)
        for bits in range(1 << len(house.maker.stretches)):
            self.assertEqual(trail(house, bits), [house.maker.stretches[number] for number in way_of(bits)])

    def test_a_new_list_each_time(self):
        house = made(self.text)
        whole = (1 << len(house.maker.stretches)) - 1
        before = list(house.maker.stretches)
        trail(house, whole).clear()
        self.assertEqual(house.maker.stretches, before)
        self.assertEqual(trail(house, whole), before)


if __name__ == "__main__":
    unittest.main()
