"""Items written as a text again."""

import unittest

from macrohouse.house import bare_items, made
from macrohouse.machine import run
from macrohouse.reader import read, shown_all
from macrohouse.writing import written
from tests.drawing import drawn_items
from tests.making import call, fn, free, num, seen_at
from tests.second_names import numbered_anew


def house_written(text):
    return written(made(text).lines)


class WrittenTest(unittest.TestCase):
    maxDiff = None

    def assert_written(self, core, text):
        self.assertEqual(written([("show", core)]), f"(part main (show {text}))")

    def test_of_no_items(self):
        self.assertEqual(written([]), "(part main)")

    def test_items(self):
        items = [("def", 3, "x", num(1)), ("show", seen_at(3)), ("def", 0, "y", seen_at(3))]
        self.assertEqual(written(items), "(part main (def x 1) (show x) (def y x))")

    def test_cores(self):
        for core, text in (
            (num(0), "0"), (num(-12), "-12"), (num(10 ** 60 - 1), "9" * 60), (free("add"), "add"),
            (fn("", num(1)), "(fn () 1)"),
            (fn("4x 2y", call(seen_at(2), seen_at(4))), "(fn (x y) (y x))"), (call(num(1)), "(1)"),
            (call(call(free("f")), num(2), call(free("g"), num(3))), "((f) 2 (g 3))"),
            (("pick", num(1), free("a"), call(free("b"))), "(pick 1 a (b))"), (("now", call(free("f"))), "(now (f))"),
            (call(fn("1x", seen_at(1)), fn("2x", seen_at(2))), "((fn (x) x) (fn (x) x))"),
        ):
            self.assert_written(core, text)

    def test_places_by_their_names(self):
        self.assert_written(fn("1x", fn("2x", call(seen_at(1), seen_at(2)))), "(fn (x) (fn (x2) (x x2)))")
        self.assert_written(fn("1fn", call(seen_at(1), num(1))), "(fn (fn) (fn 1))")
        self.assert_written(fn("1x 2x", call(seen_at(2), seen_at(1), free("x"))), "(fn (x2 x3) (x3 x2 x))")
        items = [("def", 1, "x", free("x")), ("show", seen_at(1))]
        self.assertEqual(written(items), "(part main (def x2 x) (show x2))")

    def test_houses(self):
        self.assertEqual(house_written(""), "(part main)")
        self.assertEqual(house_written("(part a (def x 1) (tell (x x))) (part b (use a (y x)) (show y) (show x))"),
                         "(part main (def x2 1) (show x2) (show x))")
        text = "(part a (mac or (((a b) ((fn (t) (pick t t b)) a)))) (show (fn (t) (or 0 t))))"
        self.assertEqual(house_written(text), "(part main (show (fn (t) ((fn (t2) (pick t2 t2 t)) 0))))")

    def test_names_spelled_like_items(self):
        for text in (
            "(part main (def def 1) (def show def) (show (show def)))", "(part main (def part 1) (def main part))",
            "(part main (def mac 1) (show (mac mac)) (show (fn (use) (use tell))))",
        ):
            self.assertEqual(house_written(text), text)

    def test_what_is_written_is_written_so_again(self):
        text = "(part main (def x (fn (y) (x y 2))) (show (pick x (now 1) ((fn () (free))))))"
        self.assertEqual(house_written(text), text)

    def test_it_is_shown_as_trees_are(self):
        for _, items in drawn_items(12, 300):
            text = written(items)
            self.assertEqual(shown_all(read(text)), text)

    def test_what_is_handed_in_stays_as_it_was(self):
        items = [("def", 0, "x", fn("1x", seen_at(0))), ("show", seen_at(0))]
        before = list(items)
        written(items)
        self.assertEqual(items, before)


class ReadBackTest(unittest.TestCase):
    maxDiff = None

    def test_items_read_back_to_the_same_but_for_names_without_any_step(self):
        count = 0
        for _, items in drawn_items(13, 2500):
            house = made(written(items), 0)
            self.assertEqual(bare_items(house.lines), bare_items(numbered_anew(items)), items)
            self.assertEqual(house.maker.steps, [])
            self.assertEqual(run(house.lines, 20), run(items, 20))
            count += len(items)
        self.assertGreater(count, 5000)

    def test_as_deep_as_a_text_may_be(self):
        core = num(1)
        for place in range(57):
            core = ("fn", ((place, "x"),), core)
        text = written([("show", core)])
        self.assertEqual(bare_items(made(text, 0).lines), bare_items(numbered_anew([("show", core)])))

    def test_a_house_with_as_deep_rows_as_may_be(self):
        text = "(part a (show " + "(f " * 58 + "1" + ")" * 58 + "))"
        lines = made(text).lines
        self.assertEqual(written(lines), "(part main" + text[len("(part a"):])
        self.assertEqual(made(written(lines), 0).lines, lines)

    def test_sixty_cores_within_one_another_are_written(self):
        core = num(1)
        for _ in range(59):
            core = ("now", core)
        self.assertEqual(written([("show", core)]), "(part main (show " + "(now " * 59 + "1" + ")" * 59 + "))")


if __name__ == "__main__":
    unittest.main()
