"""What is reckoned ahead."""

import unittest

from macrohouse.ahead import ahead
from macrohouse.errors import BadForm, HouseError, NoAhead, NoFill, NoName, NoRule
from macrohouse.house import made
from macrohouse.machine import run
from tests.drawing import drawn_items
from tests.making import call, fn, free, num, seen_at
from tests.second_house import slow_ahead

COUNT = "((fn (f) (f f %d)) (fn (g n) (pick n (add 1 (g g (sub n 1))) 0)))"


def now(core):
    return ("now", core)


def show(core):
    return [("show", core)]


class AheadTest(unittest.TestCase):
    maxDiff = None

    def assert_core(self, core, expected, fuel=200):
        self.assertEqual(ahead(show(core), fuel), show(expected))

    def assert_none(self, core, fuel=200):
        with self.assertRaises(NoAhead) as caught:
            ahead(show(core), fuel)
        self.assertEqual((type(caught.exception), caught.exception.at, caught.exception.other), (NoAhead, None, None))

    def assert_text(self, text, items, fuel=200):
        self.assertEqual(ahead(made(text).lines, fuel), items)

    def test_a_now_is_exchanged_for_its_number(self):
        self.assert_core(now(num(3)), num(3))
        self.assert_core(now(call(free("add"), num(1), num(2))), num(3))
        self.assert_core(now(call(fn("1x", call(free("sub"), seen_at(1), num(9))), num(2))), num(-7))
        self.assert_core(now(("pick", num(0), free("q"), num(4))), num(4))

    def test_all_else_stays_as_it_is(self):
        for core in (
            num(1), free("add"), free("q"), call(free("add"), num(1), num(2)), fn("1x 2y", seen_at(2)), call(num(1)),
            ("pick", num(1), call(num(2)), num(3)), call(fn("1x", seen_at(1)), free("z")),
        ):
            self.assert_core(core, core)
        items = [("def", 7, "x", num(1)), ("show", seen_at(7))]
        self.assertEqual(ahead(items), items)
        self.assertEqual(ahead([]), [])

    def test_wherever_it_stands(self):
        three = now(call(free("add"), num(1), num(2)))
        for wrap in (
            lambda core: fn("1x", core), lambda core: call(core), lambda core: call(core, num(1), core),
            lambda core: ("pick", core, num(1), core), lambda core: ("pick", num(1), core, num(2)),
            lambda core: call(free("q"), fn("1x", call(seen_at(1), core))),
        ):
            self.assert_core(wrap(three), wrap(num(3)))
        self.assertEqual(ahead([("def", 5, "d", three), ("show", three), ("def", 2, "e", fn("", three))]),
                         [("def", 5, "d", num(3)), ("show", num(3)), ("def", 2, "e", fn("", num(3)))])

    def test_a_now_within_a_now(self):
        self.assert_core(now(now(num(1))), num(1))
        self.assert_core(now(call(free("add"), now(num(1)), now(call(free("add"), num(2), now(num(3)))))), num(6))
        self.assert_core(now(call(fn("1x", call(free("add"), seen_at(1), now(num(2)))), num(1))), num(3))

    def test_the_innermost_first(self):
        self.assert_none(now(("pick", num(0), now(free("add")), num(1))))
        self.assert_none(now(call(fn("1x", now(seen_at(1))), num(1))))
        self.assert_none(now(call(fn("1x", num(1)), now(free("q")))))

    def test_a_word_of_a_place_told_outside(self):
        self.assert_none(fn("1x", now(seen_at(1))))
        self.assert_none(fn("1x", now(call(free("add"), num(1), seen_at(1)))))
        self.assert_none(fn("1x", now(call(fn("2y", seen_at(1)), num(1)))))
        self.assert_none(fn("1x", now(("pick", num(0), seen_at(1), num(2)))))
        self.assert_none(fn("3y", now(("pick", num(1), num(2), fn("2z", call(seen_at(3)))))))
        for items in (
            [("def", 0, "x", num(1)), ("show", now(seen_at(0)))], [("def", 0, "x", now(fn("1y", seen_at(0))))],
            [("def", 0, "x", num(1)), ("show", now(call(fn("", num(1)), seen_at(0))))],
        ):
            with self.assertRaises(NoAhead):
                ahead(items)

    def test_places_told_inside(self):
        less = fn("2y", call(free("sub"), seen_at(1), seen_at(2)))
        self.assert_core(now(call(fn("1x", call(less, num(3))), num(5))), num(2))
        self.assert_core(fn("9x", now(call(fn("1x", seen_at(1)), num(5)))), fn("9x", num(5)))

    def test_what_tells_no_number(self):
        for core in (
            free("add"), fn("1x", seen_at(1)), free("q"), call(num(1)), call(free("add"), num(1)),
            ("pick", free("add"), num(1), num(1)),
        ):
            self.assert_none(now(core))
            self.assert_none(fn("8x", ("pick", num(0), now(core), num(1))))

    def test_numbers_of_sixty_figures_and_of_sixty_one(self):
        great = 10 ** 60 - 1
        self.assert_core(now(num(great)), num(great))
        self.assert_core(now(num(-great)), num(-great))
        self.assert_core(now(call(free("add"), num(great - 1), num(1))), num(great))
        self.assert_core(now(call(free("sub"), num(1 - great), num(1))), num(-great))
        self.assert_none(now(call(free("add"), num(great), num(1))))
        self.assert_none(now(call(free("sub"), num(-great), num(1))))
        self.assert_core(now(call(free("sub"), call(free("add"), num(great), num(1)), num(1))), num(great))

    def test_fuel_is_told_for_each_anew(self):
        text = f"(part a (show (now {COUNT % 9})) (show (add (now {COUNT % 8}) (now {COUNT % 9}))))"
        expected = [("show", num(9)), ("show", call(free("add"), num(8), num(9)))]
        self.assert_text(text, expected, 11)
        with self.assertRaises(NoAhead):
            ahead(made(text).lines, 10)
        nested = f"(part a (show (now (add (now {COUNT % 9}) {COUNT % 9}))))"
        self.assert_text(nested, [("show", num(18))], 11)

    def test_fuel_of_nought_of_two_hundred_and_of_a_thousand(self):
        self.assert_core(now(call(free("add"), num(1), num(2))), num(3), 0)
        self.assert_none(now(call(fn("", num(1)))), 0)
        self.assertEqual(ahead(made(f"(part a (show (now {COUNT % 198})))").lines), show(num(198)))
        with self.assertRaises(NoAhead):
            ahead(made(f"(part a (show (now {COUNT % 199})))").lines)
        self.assert_text(f"(part a (show (now {COUNT % 998})))", [("show", num(998))], 1000)

    def test_of_a_house(self):
        text = ("(part a (mac sq (((x) ((fn (t) (add t t)) x)))) (def y (now (sq 4)))"
                "(def f (fn (p) (add p (now (sq (sq 1)))))) (show (f y)))")
        lines = made(text).lines
        self.assertEqual(ahead(lines), [
            ("def", 0, "y", num(8)), ("def", 1, "f", fn("3p", call(free("add"), seen_at(3), num(4)))),
            ("show", call(seen_at(1), seen_at(0))),
        ])
        self.assertEqual(run(ahead(lines)), run(lines))
        self.assertEqual(run(lines), [num(12)])

    def test_a_run_that_went_on_may_tell_more(self):
        lines = made(f"(part a (show (now {COUNT % 5})) (show (now {COUNT % 5})))").lines
        self.assertEqual(run(lines, 8), [num(5), ("on",)])
        self.assertEqual(run(ahead(lines, 8), 8), [num(5), num(5)])

    def test_what_is_handed_in_stays_as_it_was(self):
        items = show(now(now(num(1))))
        told = ahead(items)
        self.assertEqual(items, show(now(now(num(1)))))
        told.clear()
        self.assertEqual(ahead(items), show(num(1)))
        plain = show(num(1))
        ahead(plain).clear()
        self.assertEqual(plain, show(num(1)))

    def test_it_is_none_of_the_other_refusals(self):
        with self.assertRaises(HouseError) as caught:
            ahead(show(now(free("q"))))
        self.assertNotIsInstance(caught.exception, (BadForm, NoFill, NoName, NoRule))

    def test_sixty_cores_within_one_another(self):
        core = num(1)
        for _ in range(59):
            core = now(core)
        self.assert_core(core, num(1))


class DrawnTest(unittest.TestCase):
    def test_a_second_telling_and_runs(self):
        counts = {"refused": 0, "same": 0, "other": 0, "ran": 0}
        for drawer, items in drawn_items(2, 4000, 0.01):
            fuel = drawer.source.choice([0, 2, 10, 40])
            expected = [item[:-1] + (slow_ahead(item[-1], fuel),) for item in items]
            try:
                told = ahead(items, fuel)
            except NoAhead:
                told = None
            if any(item[-1] is None for item in expected):
                self.assertIsNone(told, items)
                counts["refused"] += 1
                continue
            self.assertEqual(told, expected)
            counts["same" if told == items else "other"] += 1
            if run(items, fuel)[-1:] != [("on",)] and told != items:
                self.assertEqual(run(told, fuel), run(items, fuel), items)
                counts["ran"] += 1
        self.assertGreater(min(counts.values()), 100, counts)


if __name__ == "__main__":
    unittest.main()
