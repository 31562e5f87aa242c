"""The promises over the whole program, held over many drawn houses."""

import unittest

from macrohouse.ahead import ahead
from macrohouse.errors import NoAhead
from macrohouse.house import bare_items, made
from macrohouse.kins import exchanged, kins
from macrohouse.machine import run
from macrohouse.naming import names_of
from macrohouse.reader import read, signs_of
from macrohouse.ways import trail, words_of
from macrohouse.writing import written
from tests.drawing import drawn_houses, drawn_items
from tests.houses import told_house
from tests.plain import plain
from tests.second import way_of
from tests.second_names import lead_back, scopes_of, slow_names

TEXTS = (
    "(part a (mac or (((a b) ((fn (t) (pick t t b)) a)))) (tell (or or)))"
    "(part b (use a (any or)) (def t 4) (show (any 0 t)) (show ((fn (t) (any 0 (any t t))) 7)))",
    "(part a (mac let (((((x v) *) b) ((fn (x *) b) v *)))) (tell (let let)))"
    "(part b (use a (with let)) (mac swap (((p q) (with ((p q) (q p)) (sub p q))))) (show (fn (x y) (swap x y)))"
    "(show ((fn (x y) (swap x y)) 5 3)))",
    "(part a (def to 0) (mac range (((x (= to) y) (sub y x)) ((x z y) (add x y)))) (tell (range range) (to to)))"
    "(part b (use a (from range) (until to)) (show (from 2 until 9)) (show (from 2 to 9))"
    "(show ((fn (until) (from 2 until 9)) 1)))",
    "(part a (mac told (((name value body) (mac name ((() value)) body)))) (tell (told told)))"
    "(part b (use a (const told)) (show (const x (add 1 2) (const y (add (x) (x)) (add (x) (y)))))"
    "(show (const x 1 (fn (x) (x)))))",
    "(part a (mac fn2 (((x y b) (fn (x) (fn (y) b))))) (def k (fn2 x y x)) (show (((fn2 x x x) 1) 2)) (show ((k 1) 2)))",
    "(part a (mac my (((f) (mac do (((x) (f x f))) (do f))))) (show (my add)) (show (fn (do) (my do))))",
)


def whole_texts(seed, count, most=12):
    """The texts above and drawn ones, of which houses are made, with some delays each."""
    for text in TEXTS:
        yield text, [[], [1], [2, 0, 1, 3], [5, 4, 3, 2, 1, 0, 1, 2, 3]]
    for drawer, text in drawn_houses(seed, count):
        if isinstance(told_house(text, most), list):
            yield text, [drawer.delays()]


class NamesAnewTest(unittest.TestCase):
    maxDiff = None

    def test_each_kin_alone(self):
        count = 0
        for text, _ in whole_texts(41, 500):
            house = made(text)
            for number, kin in enumerate(kins(house)[0]):
                self.hold(house, exchanged(text, kin, f"anew{number}"))
                count += 1
        self.assertGreater(count, 2000)

    def test_several_kins_at_once(self):
        for text, delays in whole_texts(42, 700):
            house = made(text)
            loose = kins(house)[0]
            chosen = [kin for number, kin in enumerate(loose) if (number + len(delays[0])) % 2]
            for some in (loose, chosen):
                other = text
                for number, kin in enumerate(some):
                    other = exchanged(other, kin, f"anew{number}")
                self.hold(house, other, delays[0])

    def hold(self, house, text, delays=None):
        other = made(text, delays=delays)
        self.assertEqual(bare_items(other.lines), bare_items(house.lines), text)
        self.assertEqual(run(other.lines, 30), run(house.lines, 30), text)

    def test_kins_are_kins_in_the_new_text_too(self):
        for text, _ in whole_texts(43, 300):
            found = kins(made(text))
            other = text
            for number, kin in enumerate(found[0]):
                other = exchanged(other, kin, f"anew{number}")
            self.assertEqual(kins(made(other)), found, text)

    def test_a_kin_has_one_spelling(self):
        for text, _ in whole_texts(44, 300):
            signs = signs_of(text)
            loose, fast = kins(made(text))
            for kin in loose + fast:
                self.assertEqual(len({signs[at] for at in kin}), 1, text)
            ats = sorted(at for kin in loose + fast for at in kin)
            self.assertEqual(ats, [at for at, sign in enumerate(signs) if sign[0].isalpha()])


class WrittenTest(unittest.TestCase):
    maxDiff = None

    def test_read_and_made_to_the_same_outcome(self):
        for text, delays in whole_texts(51, 1200):
            house = made(text, 40, delays[0])
            other = made(written(house.lines), 0)
            self.assertEqual(bare_items(other.lines), bare_items(house.lines), text)
            self.assertEqual(other.maker.steps, [])
            self.assertEqual(run(other.lines, 30), run(house.lines, 30), text)

    def test_names_by_a_second_telling(self):
        others = 0
        for text, _ in whole_texts(52, 600):
            lines = made(text).lines
            names = names_of(lines)
            self.assertEqual(names, slow_names(lines), text)
            others += len([place for place, name, *_ in scopes_of(lines) if names[place] != name])
        self.assertGreater(others, 50)

    def test_written_again_it_is_the_same(self):
        for text, _ in whole_texts(53, 300):
            first = written(made(text).lines)
            self.assertEqual(written(made(first, 0).lines), first, text)


class WaysTest(unittest.TestCase):
    def test_each_words_way_leads_back_to_a_sign(self):
        count = 0
        for text, delays in whole_texts(61, 700):
            house = made(text, 40, delays[-1])
            for name, at, bits, _ in words_of(house) + house.maker.asked:
                self.assertTrue(lead_back(house, name, at, bits), text)
                stretches = trail(house, bits)
                self.assertEqual(stretches, [house.maker.stretches[number] for number in way_of(bits)])
                self.assertEqual([kind for kind, _ in stretches].index("part"), 0)
                count += len(stretches) > 2
        self.assertGreater(count, 500)


class DelaysTest(unittest.TestCase):
    def test_they_change_nothing_that_is_told(self):
        for text, several in whole_texts(71, 500):
            house = made(text)
            for delays in several:
                other = made(text, delays=delays)
                self.assertEqual(other.lines, house.lines)
                self.assertEqual(kins(other), kins(house))
                self.assertEqual(written(other.lines), written(house.lines))
                self.assertEqual([word[:2] for word in words_of(other)], [word[:2] for word in words_of(house)])
                self.assertEqual(self.trails(other), self.trails(house))

    def trails(self, house):
        return [trail(house, word[2]) for word in words_of(house)]


class HandedInTest(unittest.TestCase):
    def test_nothing_that_is_handed_in_is_changed(self):
        for _, items in drawn_items(81, 300):
            before = repr(items)
            names_of(items)
            written(items)
            run(items, 20)
            bare_items(items)
            try:
                ahead(items, 20)
            except NoAhead:
                pass
            self.assertEqual(repr(items), before)

    def test_a_house_stays_as_it_was(self):
        for text, delays in whole_texts(82, 200):
            house = made(text, 40, delays[0])
            before = self.told(house)
            for given in (kins(house)[0], kins(house)[1], words_of(house), names_of(house.lines), run(house.lines),
                          bare_items(house.lines), trail(house, (1 << len(house.maker.stretches)) - 1)):
                given.clear()
            self.assertEqual(self.told(house), before)
            self.assertEqual([plain(tree) for tree in house.trees], [plain(tree) for tree in read(text)])

    def told(self, house):
        maker = house.maker
        return (list(house.lines), list(maker.stretches), list(maker.asked), list(maker.claims.rows), list(maker.steps),
                kins(house), words_of(house), names_of(house.lines), written(house.lines), run(house.lines))


if __name__ == "__main__":
    unittest.main()
