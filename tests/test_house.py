"""Houses: whole texts made to their items."""

import unittest

from macrohouse.errors import BadForm, BadRule, GoesOn, HouseError, NoFill, NoName, NoRule, NoText, TwoClaims
from macrohouse.house import House, bare_items, made
from macrohouse.maker import Maker
from macrohouse.reader import read, shown_all
from tests.houses import Houses, told_house
from tests.making import at_of, call, fn, free, num, seen_at
from tests.plain import plain

OR = "(mac or (((a b) ((fn (t) (pick t t b)) a))))"


class ItemsTest(Houses):
    def assert_items(self, text, items, most=40):
        self.assertEqual(told_house(text, most), items, text)

    def test_a_text_without_parts_or_items(self):
        self.assert_items("", [])
        self.assert_items(" \n ", [])
        self.assert_items("(part a)", [])
        self.assert_items("(part a (tell) (mac m ())) (part b (use a))", [])

    def test_defs_and_shows(self):
        self.assert_items("(part a (def x 1) (show (add x y)))", [
            ("def", 0, "x", num(1)), ("show", call(free("add"), seen_at(0), free("y"))),
        ])

    def test_a_top_place_is_seen_ahead_of_its_def_and_within_it(self):
        self.assert_items("(part a (show x) (def x (x)))", [("show", seen_at(0)), ("def", 0, "x", call(seen_at(0)))])

    def test_a_part_does_not_see_what_another_claims(self):
        self.assert_items("(part a (def x 1) (tell (x x))) (part b (show x))", [
            ("def", 0, "x", num(1)), ("show", free("x")),
        ])

    def test_names_handed_on_under_other_names(self):
        text = ("(part a (def x 1) (def y 2) (tell (x y) (y x)))"
                "(part b (use a (p x) (x y)) (show (p x y)) (tell (p z)))"
                "(part c (use b (y z)) (use a (x x)) (show (y x)))")
        self.assert_items(text, [
            ("def", 0, "x", num(1)), ("def", 1, "y", num(2)), ("show", call(seen_at(1), seen_at(0), free("y"))),
            ("show", call(seen_at(1), seen_at(1))),
        ])

    def test_places_are_numbered_tops_first(self):
        text = "(part a (show (fn (p q) (fn (r) p))) (def x (fn (s) s)) (def y (pick 1 (fn () 2) (fn (t) y))))"
        self.assert_items(text, [
            ("show", fn("2p 3q", fn("4r", seen_at(2)))), ("def", 0, "x", fn("5s", seen_at(5))),
            ("def", 1, "y", ("pick", num(1), fn("", num(2)), fn("6t", seen_at(1)))),
        ])

    def test_a_macro_used_in_its_own_part(self):
        self.assert_items(f"(part a (show (or 0 t)) {OR})", [
            ("show", call(fn("0t", ("pick", seen_at(0), seen_at(0), free("t"))), num(0))),
        ])

    def test_a_macro_used_in_another_part_under_another_name(self):
        text = f"(part a {OR} (tell (or any))) (part b (use a (either any)) (def t 5) (show (either or t)))"
        self.assert_items(text, [
            ("def", 0, "t", num(5)), ("show", call(fn("1t", ("pick", seen_at(1), seen_at(1), seen_at(0))), free("or"))),
        ])

    def test_template_words_mean_what_they_meant_where_they_were_written(self):
        text = ("(part a (def x 1) (def help 2) (mac m (((p) (add x p (help p))))) (tell (m m)))"
                "(part b (use a (m m)) (def x 3) (def help 4) (def add 5) (show (m x)) (show (fn (add x) (m add))))")
        self.assert_items(text, [
            ("def", 0, "x", num(1)), ("def", 1, "help", num(2)), ("def", 2, "x", num(3)), ("def", 3, "help", num(4)),
            ("def", 4, "add", num(5)),
            ("show", call(free("add"), seen_at(0), seen_at(2), call(seen_at(1), seen_at(2)))),
            ("show", fn("5add 6x", call(free("add"), seen_at(0), seen_at(5), call(seen_at(1), seen_at(5))))),
        ])

    def test_a_macro_of_one_part_that_uses_a_macro_of_another(self):
        text = ("(part a (mac one (((p) (f p)))) (tell (one one)))"
                "(part b (use a (uno one)) (mac two (((p) (uno (uno p))))) (tell (two two)))"
                "(part c (use b (zwei two)) (mac uno (((p) 7))) (mac one ()) (show (zwei (uno 1))))")
        self.assert_items(text, [("show", call(free("f"), call(free("f"), num(7))))])

    def test_fixed_words_that_mean_the_same(self):
        start = ("(part a (def to 1) (mac from (((x (= to) y) (pair x y)) ((x z y) (other x y))))"
                 "(tell (from from) (to to)))")
        yes = ("show", call(free("pair"), num(1), num(2)))
        no = ("show", call(free("other"), num(1), num(2)))
        for items, expected in (
            ("(use a (from from) (to to)) (show (from 1 to 2))", [yes]),
            ("(use a (from from) (until to)) (show (from 1 until 2)) (show (from 1 to 2))", [yes, no]),
            ("(use a (from from)) (show (from 1 to 2))", [no]),
            ("(use a (from from)) (def to 1) (show (from 1 to 2))", [("def", 1, "to", num(1)), no]),
            ("(use a (from from) (to to)) (show (fn (to) (from 1 to 2)))", [("show", fn("1to", no[1]))]),
        ):
            self.assert_items(start + f"(part b {items})", [("def", 0, "to", num(1))] + expected)

    def test_fixed_words_without_a_claim(self):
        start = "(part a (mac m ((((= else) x) (f x)) ((x y) (g x y)))) (tell (m m)))"
        self.assert_items(start + "(part b (use a (m m)) (show (m else 1)))", [("show", call(free("f"), num(1)))])
        self.assert_items(start + "(part b (use a (m m)) (def else 2) (show (m else 1)))", [
            ("def", 0, "else", num(2)), ("show", call(free("g"), seen_at(0), num(1))),
        ])

    def test_core_words_are_names_where_they_are_claimed(self):
        text = "(part a (def fn 1) (mac now (((x) (pick x fn 0)))) (def pick 2) (show (fn (x) x)) (show (now 3)))"
        self.assert_items(text, [
            ("def", 0, "fn", num(1)), ("def", 1, "pick", num(2)),
            ("show", call(seen_at(0), call(free("x")), free("x"))),
            ("show", call(seen_at(1), num(3), seen_at(0), num(0))),
        ])

    def test_a_macro_keeps_its_core_words_where_they_are_claimed_elsewhere(self):
        text = f"(part a {OR} (tell (or or))) (part b (use a (or or)) (def fn 1) (def pick 2) (show (or fn pick)))"
        self.assert_items(text, [
            ("def", 0, "fn", num(1)), ("def", 1, "pick", num(2)),
            ("show", call(fn("2t", ("pick", seen_at(2), seen_at(2), seen_at(1))), seen_at(0))),
        ])

    def test_names_spelled_like_items(self):
        text = ("(part show (def part 1) (def def 2) (def show 3) (def use 4) (def tell 5)"
                "(tell (tell def) (part tell)) (show (part def show use tell)))"
                "(part tell (use show (def tell) (show def)) (show (def show)))")
        self.assert_items(text, [
            ("def", place, name, num(place + 1)) for place, name in enumerate(["part", "def", "show", "use", "tell"])
        ] + [
            ("show", call(seen_at(0), seen_at(1), seen_at(2), seen_at(3), seen_at(4))),
            ("show", call(seen_at(0), seen_at(4))),
        ])

    def test_an_item_within_an_expr_is_a_call(self):
        self.assert_items("(part a (show (def x 1)))", [("show", call(free("def"), free("x"), num(1)))])
        self.assert_items("(part a (show (tell (x y))))", [("show", call(free("tell"), call(free("x"), free("y"))))])

    def test_a_mac_within_an_expr_tells_nothing_outside(self):
        text = "(part a (show (mac m ((() 1)) (m))) (show (m)))"
        self.assert_items(text, [("show", num(1)), ("show", call(free("m")))])

    def test_numbers_of_sixty_figures(self):
        great = "9" * 60
        self.assert_items(f"(part a (show {great}) (show -{great}))", [
            ("show", num(10 ** 60 - 1)), ("show", num(1 - 10 ** 60)),
        ])


class MostTest(Houses):
    def text(self, uses):
        return "(part a (mac m (((x) (f x)))) (show (g " + "(m 1) " * uses + ")))"

    def test_steps_just_as_many_as_most_and_one_more(self):
        for most in (0, 1, 5, 99, 100):
            self.assertEqual(len(made(self.text(most), most).maker.steps), most)
            self.assertEqual(told_house(self.text(most + 1), most)[0], GoesOn)

    def test_where_it_goes_on(self):
        self.assert_refused(GoesOn, "(part a (mac m (((x) x))) (show (m 1)) (def y !(m 2)) (show (m 3)))", 1)
        self.assert_refused(GoesOn, "(part a (mac m (((x) x))) (show !(m 1)))", 0)

    def test_most_is_forty_where_nothing_is_told(self):
        self.assertEqual(len(made(self.text(40)).maker.steps), 40)
        with self.assertRaises(GoesOn):
            made(self.text(41))

    def test_making_ends(self):
        self.assert_refused(GoesOn, "(part a (mac m ((() (m)))) (show !(m)))", 0)
        for most in (1, 7, 100):
            self.assert_refused(GoesOn, "(part a (mac m ((() !(m)))) (show (m)))", most)
        self.assert_refused(NoFill, "(part a (mac m ((() (!(m))))) (show (m)))", 100)
        self.assert_refused(NoFill, "(part a (mac m (((x) !(m (x))))) (show (m 1)))", 100)


class RefusalTest(Houses):
    def test_no_text(self):
        for text in (
            "(part a", "(part a))", "(part A)", "(part a (show 01))", "(part a\t)", "x )", "(part a (def b_c 1))",
        ):
            self.assertEqual(told_house(text), (NoText, None, None), text)

    def test_no_text_ahead_of_everything(self):
        for text in ("x (part a", "(part a (use b)) )", "(part a (show ())) (part a (show 007))"):
            self.assertEqual(told_house(text, 0), (NoText, None, None), text)

    def test_what_parts_refuse_ahead_of_what_making_does(self):
        self.assert_refused(NoName, "(part a (mac m (((x) (m x)))) (show (m 1)) (show ()) (tell (!q q)))")
        self.assert_refused(TwoClaims, "(part !a (show ())) (part ?a)")
        self.assert_refused(BadForm, "(part a (show (fn))) !(part)")
        self.assert_refused(BadRule, "(part a (show ()) (mac m ((!(x x) 1))))", 0)

    def test_goes_on_ahead_of_what_is_wrong(self):
        self.assert_refused(GoesOn, "(part a (mac m (((x) (!(m x))))) (show ()) (show (m 1)))", 3)
        self.assertEqual(told_house("(part a (mac m (((x) (m x)))) (show ()) (show (m 1)))", 3)[0], GoesOn)

    def test_what_is_wrong_in_the_order_of_the_text(self):
        for marked, kind in (
            ("(part a (show (f !() fn)) (def x ()))", BadForm), ("(part a (show !fn) (show ()))", BadForm),
            ("(part a (mac m (((x) x))) (show !(m)) (show ()))", NoRule), ("(part a (mac m ()) (show !m))", BadForm),
            ("(part a (show (mac m ((!(x x) 1)) 1)) (show ()))", BadRule),
            ("(part a (mac m ((((x *) (y *)) ((x y) *)))) (def z !(m (1) (1 2))) (show ()))", NoFill),
            ("(part a (show 1)) (part b (show !(fn)))", BadForm),
            ("(part a (show !(mac x ()))) (part b (show ()))", BadForm),
        ):
            self.assert_refused(kind, marked)

    def test_refusals_are_of_their_class_alone(self):
        kinds = (NoText, BadForm, BadRule, NoRule, NoFill, GoesOn, TwoClaims, NoName)
        for kind, text in (
            (NoText, "("), (BadForm, "x"), (BadRule, "(part a (mac m (((x x) 1))))"), (TwoClaims, "(part a) (part a)"),
            (NoRule, "(part a (mac m ()) (show (m)))"), (NoName, "(part a (use b))"),
            (GoesOn, "(part a (mac m ((() (m)))) (show (m)))"),
            (NoFill, "(part a (mac m (((x) (m (x))))) (show (m 1)))"),
        ):
            with self.assertRaises(HouseError) as caught:
                made(text, 100)
            self.assertEqual([other for other in kinds if isinstance(caught.exception, other)], [kind])


class HouseTest(Houses):
    text = f"(part a {OR} (def x (or 1 x)) (tell (or any))) (part b (use a (o any)) (show (o 1 (o 2 (fn (x) x)))))"

    def test_its_fields(self):
        house = made(self.text)
        self.assertIsInstance(house, House)
        self.assertIsInstance(house.maker, Maker)
        self.assertEqual(shown_all(house.trees), shown_all(read(self.text)))
        self.assertEqual([plain(tree) for tree in house.trees], [plain(tree) for tree in read(self.text)])
        self.assertEqual(len(house.maker.steps), 3)
        self.assertEqual([line[0] for line in house.lines], ["def", "show"])
        self.assertEqual(house.maker.stretches[:2], [("part", 0), ("part", at_of(self.text, "part", 1) - 1)])

    def test_it_keeps_lists_of_its_own(self):
        trees = read("(part a)")
        lines = [("show", num(1))]
        maker = Maker()
        house = House(trees, maker, lines)
        self.assertEqual((house.trees, house.maker, house.lines), (trees, maker, lines))
        trees.clear()
        lines.clear()
        self.assertEqual((len(house.trees), house.lines), (1, [("show", num(1))]))

    def test_delays_change_nothing(self):
        for text in (self.text, f"(part a {OR} (show (or () (or))) (def y (fn)) (show (or 1 2)))"):
            expected = told_house(text)
            for number in range(4 ** 5):
                delays = [number // 4 ** power % 4 for power in range(5)]
                self.assertEqual(told_house(text, delays=delays), expected, delays)

    def test_the_delays_stay_as_they_were(self):
        delays = [3, 1, 2]
        made(self.text, 40, delays)
        self.assertEqual(delays, [3, 1, 2])

    def test_houses_know_nothing_of_each_other(self):
        one = made(self.text)
        two = made(self.text)
        made("(part a (def y 1))")
        self.assertEqual(one.lines, two.lines)
        self.assertEqual(one.maker.claims.rows, two.maker.claims.rows)
        self.assertIsNot(one.maker, two.maker)
        self.assertEqual(told_house("(part b (use a))"), (NoName, 5, None))

    def test_many_parts(self):
        parts = ["(part p0 (def x0 0) (tell (x0 x)))"]
        parts += [f"(part p{n} (use p{n - 1} (y x)) (def x (f y)) (tell (x x)))" for n in range(1, 300)]
        lines = made(" ".join(parts)).lines
        self.assertEqual(lines[-1], ("def", 299, "x", call(free("f"), seen_at(298))))


class BareTest(unittest.TestCase):
    def test_names_are_left_off(self):
        items = [
            ("def", 3, "x", fn("1a 2b", call(free("f"), seen_at(1), fn("4c", ("now", seen_at(3)))))), ("show", num(1)),
            ("show", ("pick", free("x"), fn("", seen_at(3)), fn("5x", num(2)))),
        ]
        self.assertEqual(bare_items(items), [
            ("def", 3, "", fn("1 2", call(free("f"), seen_at(1), fn("4", ("now", seen_at(3)))))), ("show", num(1)),
            ("show", ("pick", free("x"), fn("", seen_at(3)), fn("5", num(2)))),
        ])
        self.assertEqual(items[0][2], "x")

    def test_of_nothing(self):
        self.assertEqual(bare_items([]), [])

    def test_a_list_of_its_own(self):
        items = [("show", num(1))]
        bare_items(items).clear()
        self.assertEqual(items, [("show", num(1))])
        self.assertIsNot(bare_items(items), items)


if __name__ == "__main__":
    unittest.main()
