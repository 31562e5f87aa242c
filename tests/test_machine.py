"""Runs: values, calls, what is stuck, and fuel."""

import unittest

from macrohouse.machine import run
from tests.houses import Houses, ran
from tests.making import call, fn, free, num, seen_at
from tests.drawing import drawn_items
from tests.second_house import slow_run

STUCK = ("stuck",)
ON = ("on",)
COUNT = "(def count (fn (n) (pick n (add 1 (count (sub n 1))) 0)))"
LOOP = "(def loop (fn () (loop)))"


def shows(*cores):
    return [("show", core) for core in cores]


class ValuesTest(Houses):
    def assert_shown(self, expr, answer):
        self.assert_runs(f"(part a (show {expr}))", [answer])

    def test_without_items(self):
        self.assertEqual(run([]), [])
        self.assertEqual(run([("def", 0, "x", num(1))]), [])

    def test_numbers(self):
        for number in (0, 1, -1, 10 ** 60 - 1, 1 - 10 ** 60):
            self.assert_shown(str(number), ("num", number))

    def test_operations(self):
        for expr, number in (
            ("(add 2 3)", 5), ("(sub 2 3)", -1), ("(sub 3 2)", 1), ("(less 2 3)", 1), ("(less 3 2)", 0),
            ("(less 2 2)", 0), ("(less -3 -2)", 1), ("(add (sub 1 2) (less 0 9))", 0), ("(add -5 5)", 0),
        ):
            self.assert_shown(expr, ("num", number))

    def test_numbers_grow_as_they_need(self):
        great = "9" * 60
        self.assert_shown(f"(add {great} 1)", ("num", 10 ** 60))
        self.assert_shown(f"(sub -{great} {great})", ("num", 2 - 2 * 10 ** 60))

    def test_what_shows_tell(self):
        self.assert_shown("add", ("op", "add"))
        self.assert_shown("sub", ("op", "sub"))
        self.assert_shown("less", ("op", "less"))
        self.assert_shown("(fn () 1)", ("fn", 0))
        self.assert_shown("(fn (x y z) q)", ("fn", 3))
        self.assert_shown("(now 4)", ("num", 4))
        self.assert_shown("(now (fn (x) x))", ("fn", 1))

    def test_fns(self):
        for expr, number in (
            ("((fn (x) x) 3)", 3), ("((fn () 4))", 4), ("((fn (x y) (sub x y)) 9 5)", 4),
            ("((fn (f) (f 1 2)) add)", 3), ("((fn (f) (f 6)) (fn (x) (add x x)))", 12),
            ("(((fn (x) (fn (y) (sub x y))) 10) 3)", 7), ("((fn (x) ((fn (x) x) 2)) 1)", 2),
            ("((fn (x) (add ((fn (x) x) 2) x)) 1)", 3),
        ):
            self.assert_shown(expr, ("num", number))

    def test_a_fn_keeps_what_its_words_mean_where_it_stands(self):
        text = ("(part a (def adder (fn (x) (fn (y) (add x y)))) (def one (adder 1)) (def ten (adder 10))"
                "(show (one 5)) (show (ten 5)) (show (one 5)) (show ((fn (x) (one x)) 100)))")
        self.assert_runs(text, [num(6), num(15), num(6), num(101)])

    def test_a_fn_that_is_called_within_itself_has_its_own_places(self):
        text = "(part a (def f (fn (n g) (pick n (f (sub n 1) (fn () (add n (g)))) (g)))) (show (f 4 (fn () 100))))"
        self.assert_runs(text, [num(110)])

    def test_defs(self):
        self.assert_runs("(part a (def x 1) (def y (add x x)) (show (add x y)))", [num(3)])
        self.assert_runs(f"(part a {COUNT} (show (count 0)) (show (count 7)))", [num(0), num(7)])

    def test_defs_that_call_one_another(self):
        text = ("(part a (def even (fn (n) (pick n (odd (sub n 1)) 1))) (def odd (fn (n) (pick n (even (sub n 1)) 0)))"
                "(show (even 10)) (show (even 7)))")
        self.assert_runs(text, [num(1), num(0)])

    def test_pick(self):
        for expr, number in (
            ("(pick 0 1 2)", 2), ("(pick 1 1 2)", 1), ("(pick -1 1 2)", 1), ("(pick (less 1 0) 1 2)", 2),
            ("(pick 5 1 nowhere)", 1), ("(pick 0 (nowhere) 2)", 2), ("(pick 0 (0) 2)", 2),
            ("((pick 1 add sub) 5 3)", 8),
        ):
            self.assert_shown(expr, ("num", number))

    def test_the_branch_that_is_not_run_calls_nothing(self):
        self.assert_runs(f"(part a {LOOP} (show (pick 0 (loop) 1)) (show (pick 1 2 (loop))))", [num(1), num(2)], 0)

    def test_macros_and_parts_run(self):
        text = ("(part a (mac or (((p q) ((fn (t) (pick t t q)) p)))) (tell (or or)))"
                "(part b (use a (or or)) (def t 7) (show (or 0 t)) (show (or 3 (nowhere))))")
        self.assert_runs(text, [num(7), num(3)])

    def test_places_of_any_size_and_order(self):
        items = [
            ("def", 10 ** 30, "x", fn("9a 0b", call(free("sub"), seen_at(9), seen_at(0)))), ("def", 5, "x", num(3)),
            ("show", call(seen_at(10 ** 30), seen_at(5), num(1))),
        ]
        self.assertEqual(run(items), [num(2)])

    def test_names_of_places_mean_nothing(self):
        items = [("def", 0, "x", num(1)), ("def", 1, "x", num(2)), ("show", call(free("sub"), seen_at(0), seen_at(1)))]
        self.assertEqual(run(items), [num(-1)])
        adding = fn("3add 4add", call(free("add"), seen_at(3), seen_at(4)))
        self.assertEqual(run(shows(call(adding, num(1), num(2)))), [num(3)])


class StuckTest(Houses):
    def assert_stuck(self, expr):
        self.assert_runs(f"(part a (show 1) (def y 1) (show {expr}) (show 2))", [num(1), STUCK])
        self.assert_runs(f"(part a (def x {expr}) (show 2))", [STUCK])

    def test_free_names(self):
        for name in ("x2", "nowhere", "part", "def", "tell", "adds"):
            self.assert_stuck(name)

    def test_a_top_place_whose_def_has_not_come_to_it(self):
        self.assert_runs("(part a (show y) (def y 1))", [STUCK])
        self.assert_runs("(part a (def y y) (show 1))", [STUCK])
        self.assert_runs("(part a (def y (add 1 (pick 0 1 y))))", [STUCK])
        self.assert_runs("(part a (def f (fn () y)) (show (f)) (def y 1))", [STUCK])
        self.assert_runs("(part a (def f (fn () y)) (def y 1) (show (f)))", [num(1)])
        self.assert_runs("(part a (def x ((fn () x))) (show 1))", [STUCK])

    def test_a_fn_with_another_number_of_things(self):
        for expr in ("((fn () 1) 1)", "((fn (x) 1))", "((fn (x) 1) 1 2)", "((fn (x y) 1) 1)", "((now (fn (x) x)))"):
            self.assert_stuck(expr)

    def test_an_operation_with_another_number_of_things(self):
        for expr in ("(add)", "(add 1)", "(add 1 2 3)", "(sub 1)", "(less)", "(less 1 2 3)"):
            self.assert_stuck(expr)

    def test_an_operation_with_things_that_are_no_numbers(self):
        for expr in ("(add 1 add)", "(add sub 1)", "(less (fn () 1) 1)", "(sub 1 (fn (x) x))", "(add add add)"):
            self.assert_stuck(expr)

    def test_what_can_not_be_called(self):
        for expr in ("(1)", "(1 2)", "(1 2 3)", "((add 1 2) 3 4)", "(0)", "(y)"):
            self.assert_stuck(expr)

    def test_pick_of_no_number(self):
        for expr in ("(pick add 1 2)", "(pick (fn () 1) 1 2)", "(pick nowhere 1 2)"):
            self.assert_stuck(expr)

    def test_the_other_parts_are_run_whatever_the_first_is(self):
        for first in ("1", "(fn () 1)", "(fn (x y) 1)", "add"):
            self.assert_runs(f"(part a {LOOP} (show ({first} (loop))))", [ON])
        self.assert_runs(f"(part a {LOOP} (show (1 nowhere (loop))))", [STUCK])
        self.assert_runs(f"(part a {LOOP} (show (1 (loop) nowhere)))", [ON])
        self.assert_runs(f"(part a {LOOP} (show (nowhere (loop))))", [STUCK])
        self.assert_runs(f"(part a {LOOP} (show (add add (loop))))", [ON])
        self.assert_runs(f"(part a {LOOP} (show ((fn (x) 1) (loop) 2)))", [ON])

    def test_the_first_part_is_run_first(self):
        self.assert_runs(f"(part a {LOOP} (show ((loop) nowhere)))", [ON])
        self.assert_runs(f"(part a {LOOP} (show (pick (loop) nowhere nowhere)))", [ON])

    def test_nothing_more_is_told_behind_it(self):
        self.assert_runs("(part a (show 1) (show nowhere) (show 2) (show nowhere))", [num(1), STUCK])


class FuelTest(Houses):
    def test_met_exactly_and_passed_by_one(self):
        for count in (0, 1, 2, 50, 200, 999):
            text = f"(part a {COUNT} (show (count {count})))"
            self.assert_runs(text, [num(count)], count + 1)
            self.assert_runs(text, [ON], count)

    def test_without_fuel(self):
        self.assert_runs("(part a (show (add 1 2)) (show ((fn () 1))) (show 3))", [num(3), ON], 0)
        self.assert_runs("(part a (def x ((fn () 1))) (show 3))", [ON], 0)

    def test_two_hundred_where_nothing_is_told(self):
        self.assertEqual(run(self.lines(199)), [num(199)])
        self.assertEqual(run(self.lines(200)), [ON])

    def lines(self, count):
        again = call(free("add"), num(1), call(seen_at(0), call(free("sub"), seen_at(1), num(1))))
        body = ("pick", seen_at(1), again, num(0))
        return [("def", 0, "count", fn("1n", body)), ("show", call(seen_at(0), num(count)))]

    def test_it_is_for_the_whole_run(self):
        text = "(part a (def f (fn () 1)) (show (f)) (show (f)) (def x (f)) (show (f)))"
        self.assert_runs(text, [num(1)] * 3, 4)
        self.assert_runs(text, [num(1), num(1), ON], 3)
        self.assert_runs(text, [num(1), num(1), ON], 2)
        self.assert_runs(text, [num(1), ON], 1)

    def test_a_run_has_its_fuel_anew(self):
        lines = self.lines(150)
        self.assertEqual([run(lines), run(lines)], [[num(150)]] * 2)

    def test_operations_and_stuck_calls_use_none(self):
        self.assert_runs("(part a (show (add (sub 1 2) (less 3 4))))", [num(0)], 0)
        self.assert_runs("(part a (show ((fn (x) x))))", [STUCK], 0)
        self.assert_runs("(part a (show ((fn (x) x) 1 2)))", [STUCK], 0)
        self.assert_runs("(part a (show (add ((fn () 1)))))", [STUCK], 1)

    def test_calls_within_one_another_as_often_as_fuel_lets(self):
        self.assert_runs(f"(part a {COUNT} (show (count 999)))", [num(999)], 1000)
        self.assert_runs(f"(part a {COUNT} (show (count 1000)))", [ON], 1000)
        self.assert_runs(f"(part a {LOOP} (show (loop)))", [ON], 1000)
        deep = "(def f (fn (n) (pick n (pick (less 0 (add 0 (add (add 0 (f (sub n 1))) 1))) n n) 1)))"
        self.assert_runs(f"(part a {deep} (show (f 999)))", [num(999)], 1000)

    def test_things_handed_in_as_calls_within_one_another(self):
        text = "(part a (def f (fn (x) (add x 1))) (show " + "(f " * 40 + "0" + ")" * 40 + "))"
        self.assert_runs(text, [num(40)], 40)
        self.assert_runs(text, [ON], 39)

    def test_fns_made_within_one_another(self):
        text = ("(part a (def f (fn (n k) (pick n (f (sub n 1) (fn (x) (k (add x 1)))) (k 0))))"
                "(show (f 499 (fn (x) x))))")
        self.assert_runs(text, [num(499)], 1000)
        self.assert_runs(text, [ON], 999)


class HandedInTest(unittest.TestCase):
    def test_what_is_handed_in_stays_as_it_was(self):
        items = [("def", 0, "x", fn("1y", seen_at(1))), ("show", call(seen_at(0), num(2))), ("show", free("q"))]
        before = list(items)
        answers = run(items)
        self.assertEqual(items, before)
        answers.clear()
        self.assertEqual(run(items), [num(2), STUCK])

    def test_it_tells_tuples(self):
        for answer in run(shows(num(1), free("add"), fn("1y", num(1)), free("q"))):
            self.assertIsInstance(answer, tuple)

    def test_sixty_cores_within_one_another(self):
        core = num(1)
        for _ in range(59):
            core = ("now", core)
        self.assertEqual(run(shows(core)), [num(1)])
        core = num(0)
        for place in range(29):
            core = call(("fn", ((place, "x"),), call(free("add"), seen_at(place), num(1))), core)
        self.assertEqual(run(shows(core)), [num(29)])


class DrawnTest(unittest.TestCase):
    def test_a_second_telling(self):
        ends = {}
        for drawer, items in drawn_items(1, 4000):
            fuel = drawer.source.choice([0, 1, 3, 10, 40])
            told = run(items, fuel)
            self.assertEqual(told, slow_run(items, fuel), (items, fuel))
            for answer in told:
                ends[answer[0]] = ends.get(answer[0], 0) + 1
        self.assertEqual(set(ends), {"num", "fn", "op", "stuck", "on"})
        self.assertGreater(min(ends.values()), 20, ends)

    def test_houses_run(self):
        self.assertEqual(ran("(part a (show 1)) (part b (show 2) (show x))"), [num(1), num(2), STUCK])


if __name__ == "__main__":
    unittest.main()
