"""Parts: what they claim and tell, and what is refused of them."""

import unittest

from macrohouse.errors import BadForm, BadRule, HouseError, NoName, TwoClaims
from macrohouse.maker import Maker
from macrohouse.parts import enter
from macrohouse.reader import read
from macrohouse.turns import make
from tests.houses import Houses, marks
from tests.making import at_of
from tests.plain import plain, seen


def entered(text):
    maker = Maker()
    return maker, enter(maker, read(text))


def lines_of(text):
    return [line[:-1] + (seen(line[-1]),) for line in entered(text)[1]]


def claims_of(text):
    return entered(text)[0].claims.rows


class EnterTest(unittest.TestCase):
    maxDiff = None

    def test_a_text_without_parts(self):
        maker, lines = entered("")
        self.assertEqual(lines, [])
        self.assertEqual(maker.stretches, [])

    def test_a_part_without_items(self):
        maker, lines = entered("(part a)")
        self.assertEqual(lines, [])
        self.assertEqual(maker.stretches, [("part", 0)])
        self.assertEqual(maker.claims.rows, [])

    def test_defs_and_shows_in_the_order_of_the_text(self):
        text = "(part a (show 1) (def x (add x y)) (tell (x x)) (show x)) (part b (def y ()) (show (y x 2)))"
        self.assertEqual(lines_of(text), [
            ("show", "1"), ("def", 0, "x", "(add:1 x:1 y:1)"), ("show", "x:1"), ("def", 1, "y", "()"),
            ("show", "(y:2 x:2 2)"),
        ])

    def test_each_part_has_the_stretch_of_its_number(self):
        text = "(part a) (part b (show x)) (part c (def y y))"
        maker, _ = entered(text)
        self.assertEqual(maker.stretches, [("part", 0), ("part", 4), ("part", 12)])
        self.assertEqual(lines_of(text), [("show", "x:2"), ("def", 0, "y", "y:4")])

    def test_what_def_claims(self):
        text = "(part a (def x 1) (def y 2)) (part b (def x 3))"
        self.assertEqual(claims_of(text), [
            ("x", 5, 1, ("seen", 0)), ("y", 10, 1, ("seen", 1)), ("x", 19, 2, ("seen", 2)),
        ])
        maker, _ = entered(text)
        self.assertEqual(maker.place(), 3)

    def test_what_mac_claims(self):
        text = "(part a (mac m (((x) (x y)) ((1) 2)))) (part b (mac m ()))"
        maker, lines = entered(text)
        self.assertEqual(lines, [])
        self.assertEqual(maker.claims.rows, [("m", 5, 1, ("macro", 0)), ("m", at_of(text, "m", 1), 2, ("macro", 1))])
        one, two = maker.macros
        self.assertEqual((one.name, one.at, one.bits), ("m", 5, 1))
        self.assertEqual([(seen(pattern), seen(template)) for pattern, template in one.rules],
                         [("(x:1)", "(x:1 y:1)"), ("(1)", "2")])
        self.assertEqual((two.name, two.bits, two.rules), ("m", 2, []))

    def test_what_use_claims(self):
        text = "(part a (tell (x p) (m q)) (def x 1) (mac m ())) (part b (use a (x q) (y p) (z p)))"
        rows = claims_of(text)
        self.assertEqual([row[3] for row in rows], [("seen", 0), ("macro", 0), ("macro", 0), ("seen", 0), ("seen", 0)])
        self.assertEqual([row[0] for row in rows], ["x", "m", "x", "y", "z"])
        self.assertEqual([row[2] for row in rows], [1, 1, 2, 2, 2])
        self.assertEqual([row[1] for row in rows[2:]], [at_of(text, "x", 2), at_of(text, "y"), at_of(text, "z")])

    def test_what_is_used_may_be_handed_on_under_another_name(self):
        text = "(part a (def x 1) (tell (x p))) (part b (use a (y p)) (tell (y r))) (part c (use b (z r)))"
        self.assertEqual([row[3] for row in claims_of(text)], [("seen", 0)] * 3)

    def test_one_meaning_may_be_told_twice(self):
        text = "(part a (def x 1) (tell (x p) (x q)) (tell (x r))) (part b (use a (x p) (y q) (z r)))"
        self.assertEqual([row[3] for row in claims_of(text)], [("seen", 0)] * 4)

    def test_two_parts_may_tell_the_same_name(self):
        text = "(part a (def x 1) (tell (x p))) (part b (def x 2) (tell (x p))) (part c (use a (x p)) (use b (y p)))"
        self.assertEqual([row[3] for row in claims_of(text)[2:]], [("seen", 0), ("seen", 1)])

    def test_a_tell_ahead_of_what_it_tells(self):
        text = "(part a (tell (x x)) (tell (m m)) (def x 1) (mac m ())) (part b (use a (x x) (m m)))"
        self.assertEqual([row[3] for row in claims_of(text)[2:]], [("seen", 0), ("macro", 0)])

    def test_without_pairs_or_rules(self):
        maker, lines = entered("(part a (tell) (mac m ()) (tell)) (part b (use a) (use a))")
        self.assertEqual(lines, [])
        self.assertEqual(len(maker.claims.rows), 1)

    def test_what_is_told_was_asked_for(self):
        text = "(part a (def x 1) (tell (x y) (x z)))"
        maker, _ = entered(text)
        self.assertEqual(maker.asked, [("x", 11, 1, 0), ("x", 15, 1, 0)])

    def test_names_that_are_spelled_like_items_and_parts(self):
        text = ("(part part (def def 1) (def show def) (mac use ()) (def part 2) (def mac 3) (def tell 4) (def fn 5)"
                "(tell (def tell) (tell part) (use show) (fn now)))"
                "(part def (use part (use tell) (tell part) (mac show) (pick now)) (show (show def)))")
        self.assertEqual(lines_of(text), [
            ("def", 0, "def", "1"), ("def", 1, "show", "def:1"), ("def", 2, "part", "2"), ("def", 3, "mac", "3"),
            ("def", 4, "tell", "4"), ("def", 5, "fn", "5"), ("show", "(show:2 def:2)"),
        ])
        self.assertEqual([(row[0], row[3]) for row in claims_of(text)[7:]], [
            ("use", ("seen", 0)), ("tell", ("seen", 4)), ("mac", ("macro", 0)), ("pick", ("seen", 5)),
        ])

    def test_any_tree_is_an_expr(self):
        for expr in ("*", "=", "()", "-7", "fn", "(tell)", "((part a))"):
            self.assertEqual(len(lines_of(f"(part a (def x {expr}) (show {expr}))")), 2)

    def test_what_is_handed_in_stays_as_it_was(self):
        trees = read("(part a (def x (f x)) (mac m (((p) (p x)))) (tell (x y))) (part b (use a (z y)) (show z))")
        before = [plain(tree) for tree in trees]
        maker = Maker()
        lines = enter(maker, trees)
        self.assertEqual([plain(tree) for tree in trees], before)
        trees.clear()
        self.assertEqual(len(lines), 2)
        again = enter(Maker(), read("(part a (show 1))"))
        lines.clear()
        self.assertEqual(len(again), 1)
        self.assertEqual(len(maker.claims.rows), 3)

    def test_nothing_is_put_into_the_maker(self):
        maker, _ = entered("(part a (def x 1) (show x))")
        self.assertEqual(make(maker), 0)

    def test_makers_know_nothing_of_each_other(self):
        entered("(part a (def x 1) (tell (x x)))")
        with self.assertRaises(NoName):
            entered("(part b (use a (x x)))")


class Refusing(Houses):
    """Holds both `made` and `enter` against what is to be refused."""

    def assert_refused(self, kind, marked, most=40):
        Houses.assert_refused(self, kind, marked, most)
        text, at, other = marks(marked)
        with self.assertRaises(HouseError) as caught:
            entered(text)
        error = caught.exception
        self.assertEqual((type(error), error.at, error.other), (kind, at, other))


class RefusalTest(Refusing):
    def test_what_is_no_part(self):
        for text in (
            "!x", "!7", "!*", "!()", "!(part)", "!(part 7)", "!(part *)", "!(part =)", "!(part (a))", "!((part) a)",
            "!(def x 1)", "!(parts a)", "!(a part)", "!(7 a)", "!part a", "(part a) !x", "(part a) !()",
            "(part a) (part b (show 1)) !(show 1)",
        ):
            self.assert_refused(BadForm, text)

    def test_what_is_no_item(self):
        for item in (
            "x", "7", "*", "()", "show", "tell", "(7)", "(x)", "((show) 1)", "((tell))", "(shows 1)", "(part b)",
            "(fn () 1)", "(= x)", "(now 1)", "(* 1)",
        ):
            self.assert_refused(BadForm, f"(part a !{item})")

    def test_items_of_another_make(self):
        for item in (
            "(show)", "(show 1 2)", "(def)", "(def x)", "(def x 1 2)", "(def 1 1)", "(def (x) 1)", "(def * 1)",
            "(def = 1)",
            "(mac)", "(mac m)", "(mac m x)", "(mac 1 ())", "(mac * ())", "(mac (m) ())", "(mac m () 1)",
            "(mac m () ())", "(mac m (x))", "(mac m (()))", "(mac m ((1 1)))", "(mac m ((x 1)))", "(mac m (((x))))",
            "(mac m (((x) 1 2)))", "(mac m (((x) 1) 2))", "(mac m ((x) 1))",
            "(use)", "(use 1)", "(use *)", "(use (b))", "(use b x)", "(use b ())", "(use b (x))", "(use b (x y z))",
            "(use b (x 1))", "(use b (1 x))", "(use b (* x))", "(use b (x =))", "(use b (x y) 1)", "(use (x y))",
            "(tell x)", "(tell 1)", "(tell ())", "(tell (x))", "(tell (x y z))", "(tell (1 x))", "(tell (x 1))",
            "(tell (x *))", "(tell (= x))", "(tell ((x) y))", "(tell (x y) z)",
        ):
            self.assert_refused(BadForm, f"(part b (def x 1) (tell (x x))) (part a (def y 1) !{item})")

    def test_a_name_claimed_twice(self):
        for items in (
            "(def !x 1) (def ?x 2)", "(def !x 1) (mac ?x ())", "(mac !x ()) (def ?x 1)", "(mac !x ()) (mac ?x ())",
            "(use b (!x p) (?x p))", "(use b (!x p)) (use b (?x q))", "(use b (!x p)) (def ?x 1)",
            "(mac !x ()) (show x) (use b (y p) (?x q))", "(def !x 1) (def y 2) (def ?x 3) (def x 4)",
            "(def !part 1) (def ?part 2)", "(def !fn 1) (mac ?fn ())",
        ):
            self.assert_refused(TwoClaims, f"(part b (def x 1) (def y 1) (tell (x p) (y q))) (part a {items})")

    def test_the_same_name_in_two_parts_is_no_harm(self):
        self.assertEqual(len(lines_of("(part a (def x 1)) (part b (def x 1))")), 2)

    def test_a_parts_name_that_an_earlier_part_has(self):
        self.assert_refused(TwoClaims, "(part !a) (part ?a)")
        self.assert_refused(TwoClaims, "(part b) (part !a) (part c) (part ?a) (part a)")
        self.assert_refused(TwoClaims, "(part !part) (part ?part)")

    def test_theirs_told_twice(self):
        for tells in (
            "(tell (x !p) (x ?p))", "(tell (x !p) (y ?p))", "(tell (x !p)) (tell (y q)) (tell (y ?p))",
            "(tell (x p1) (x !p2) (y ?p2) (x p1))",
        ):
            self.assert_refused(TwoClaims, f"(part a (def x 1) (def y 1) {tells})")

    def test_part_that_is_no_earlier_parts(self):
        self.assert_refused(NoName, "(part a (use !b))")
        self.assert_refused(NoName, "(part a (use !a))")
        self.assert_refused(NoName, "(part a (use !b)) (part b)")
        self.assert_refused(NoName, "(part a (def b 1) (tell (b b))) (part c (use !b (x b)))")
        self.assert_refused(NoName, "(part a (use !a (x x)) (def y 1) (tell (y x)))")

    def test_theirs_that_is_not_told(self):
        start = "(part a (def x 1) (def y 2) (tell (x p)))"
        self.assert_refused(NoName, start + "(part b (use a (x !x)))")
        self.assert_refused(NoName, start + "(part b (use a (x p) (y !q) (z p)))")
        self.assert_refused(NoName, start + "(part b (use a (p p)) (tell (p q))) (part c (use a (x !q)))")
        self.assert_refused(NoName, "(part a) (part b (use a (x !x)))")

    def test_mine_without_a_claim(self):
        self.assert_refused(NoName, "(part a (tell (!x x)))")
        self.assert_refused(NoName, "(part a (def x 1) (tell (x p) (!y q)))")
        self.assert_refused(NoName, "(part a (def x 1)) (part b (tell (!x x)))")
        self.assert_refused(NoName, "(part a (def x 1) (tell (x y)) (tell (!y z)))")
        self.assert_refused(NoName, "(part a (tell (!add add)))")
        self.assert_refused(NoName, "(part a (tell (!fn fn)))")
        self.assert_refused(NoName, "(part a (show (fn (x) x)) (tell (!x x)))")

    def test_bad_rules(self):
        self.assert_refused(BadRule, "(part a (mac m ((!(x x) 1))))")
        self.assert_refused(BadRule, "(part a (mac m (((x) 1) (!(x *) x) ((y y) 1))))")
        self.assert_refused(BadRule, "(part a (mac m ((!(* x) 1))))")
        self.assert_refused(BadRule, "(part a (mac m ((!(x * y *) 1))))")
        self.assert_refused(BadRule, "(part a (mac m ((!((= *)) 1))))")


class OrderTest(Refusing):
    """Several things to be refused: the first in the order of [32] is told."""

    def test_parts_in_their_order(self):
        self.assert_refused(NoName, "(part a (use !b)) (part) (part a)")
        self.assert_refused(BadForm, "!(part) (part a (use b))")
        self.assert_refused(NoName, "(part a (tell (!x x))) x")

    def test_a_parts_form_and_name_ahead_of_its_items(self):
        self.assert_refused(TwoClaims, "(part !a) (part ?a x (use q) (def))")
        self.assert_refused(BadForm, "(part a) !(part (def) x)")

    def test_items_in_their_order(self):
        self.assert_refused(BadForm, "(part a !(def) (use b) (def x 1) (def x 2))")
        self.assert_refused(NoName, "(part a (use !b) (def))")
        self.assert_refused(TwoClaims, "(part a (def !x 1) (def ?x 2) (use b) (mac m (((x x) 1))))")
        self.assert_refused(BadRule, "(part a (mac m ((!(x x) 1))) (use b) (mac m ()))")

    def test_a_tell_behind_all_other_items(self):
        self.assert_refused(BadForm, "(part a (tell (x x)) !(def))")
        self.assert_refused(NoName, "(part a (tell 7) (use !b))")
        self.assert_refused(TwoClaims, "(part a (tell 7) (def !x 1) (tell (y y)) (mac ?x ()))")
        self.assert_refused(BadRule, "(part a (tell (x)) (mac m ((!(x x) 1))))")
        self.assert_refused(BadForm, "(part a (tell 7) !tell)")
        self.assert_refused(BadForm, "(part a (tell 7) !((tell) 7))")
        self.assert_refused(BadForm, "(part a !(tell 7) (tell (x x)) (show 1))")
        self.assert_refused(BadForm, "(part a (show 1) !(tell (x)) (def x 1))")

    def test_tells_in_their_order(self):
        self.assert_refused(NoName, "(part a (tell (!x x)) (show 1) (tell 7))")
        self.assert_refused(BadForm, "(part a !(tell 7) (show 1) (tell (x x)))")
        self.assert_refused(TwoClaims, "(part a (tell (x !p) (x ?p) (y q)) (def x 1) (tell 7))")

    def test_an_items_form_ahead_of_what_is_in_it(self):
        self.assert_refused(BadForm, "(part a !(use b (x)))")
        self.assert_refused(BadForm, "(part a (def x 1) !(def x))")
        self.assert_refused(BadForm, "(part a (mac x ()) !(mac x (((y y) 1) 2)))")
        self.assert_refused(BadForm, "(part a !(tell (x y) (z)))")
        self.assert_refused(BadForm, "(part a) (part b !(use a (x y) (z 1)))")

    def test_a_bad_rule_behind_a_name_that_is_claimed_twice(self):
        self.assert_refused(TwoClaims, "(part a (def !m 1) (mac ?m (((x x) 1))))")

    def test_part_ahead_of_pairs(self):
        self.assert_refused(NoName, "(part a (def x 1) (use !b (x y)))")

    def test_theirs_ahead_of_mine_in_use(self):
        start = "(part a (def x 1) (tell (x p)))"
        self.assert_refused(NoName, start + "(part b (def x 1) (use a (x !q)))")
        self.assert_refused(TwoClaims, start + "(part b (def !x 1) (use a (?x p) (y q)))")
        self.assert_refused(NoName, start + "(part b (def x 1) (use a (y !q) (x p)))")

    def test_mine_ahead_of_theirs_in_tell(self):
        self.assert_refused(NoName, "(part a (def x 1) (tell (x p) (!y p)))")
        self.assert_refused(TwoClaims, "(part a (def x 1) (tell (x !p) (x ?p) (y q)))")


if __name__ == "__main__":
    unittest.main()
