import unittest

from macrohouse.errors import BadForm, BadRule
from macrohouse.forms import is_rule, rules_of
from macrohouse.maker import Maker
from macrohouse.outcome import outcome
from macrohouse.reader import read
from macrohouse.trees import Word
from macrohouse.turns import make
from tests.making import Making, at_of, call, cores_of, fn, free, made, num, seen_at
from tests.plain import plain, refusal, seen, tree_of, trees_of


class IsRuleTest(unittest.TestCase):
    def test_a_row_of_a_row_and_a_tree(self):
        for text in ("(() 1)", "((a) a)", "((a b) (c))", "((a a) *)", "((= a) =)", "((* *) ())"):
            self.assertIs(is_rule(tree_of(text)), True, text)

    def test_what_is_none(self):
        for text in ("a", "1", "*", "()", "((a))", "(a)", "(a b)", "(1 (a))", "(a (a))", "(* (a))", "((a) b c)",
                     "((a) b *)"):
            self.assertIs(is_rule(tree_of(text)), False, text)


class RulesOfTest(unittest.TestCase):
    def test_none(self):
        self.assertEqual(rules_of([]), [])

    def test_pairs_of_the_very_trees(self):
        rows = trees_of("((a) a) ((b *) (b *))")
        rules = rules_of(rows)
        self.assertIs(type(rules), list)
        self.assertEqual([(seen(pattern), seen(template)) for pattern, template in rules],
                         [("(a)", "a"), ("(b *)", "(b *)")])
        for rule, row in zip(rules, rows):
            self.assertIs(type(rule), tuple)
            self.assertIs(rule[0], row.parts[0])
            self.assertIs(rule[1], row.parts[1])

    def test_the_first_bad_one(self):
        text = "((a) a) ((b *) b) ((c c) 1)"
        rows = trees_of(text)
        error = refusal(rules_of, rows)
        self.assertIs(type(error), BadRule)
        self.assertEqual((error.at, error.other), (rows[1].parts[0].at, None))
        self.assertEqual(rows[1].parts[0].at, at_of(text, "(", 3))
        self.assertEqual(refusal(rules_of, [rows[2], rows[1]]).at, rows[2].parts[0].at)

    def test_nothing_is_changed_and_the_list_is_the_askers_own(self):
        rows = trees_of("((a) a) ((b *) (b *))")
        before = [plain(row) for row in rows]
        first = rules_of(rows)
        first.clear()
        self.assertEqual(len(rules_of(rows)), 2)
        self.assertEqual([plain(row) for row in rows], before)


class FnTest(Making):
    def test_params_and_body(self):
        self.assert_core("(fn () 1)", ("fn", (), num(1)))
        self.assert_core("(fn (x) x)", fn("0x", seen_at(0)))
        self.assert_core("(fn (x y z) (z x y w))", fn("0x 1y 2z", call(seen_at(2), seen_at(0), seen_at(1), free("w"))))

    def test_fn_within_fn(self):
        self.assert_core("(fn (x) (fn (y) (x y)))", fn("0x", fn("1y", call(seen_at(0), seen_at(1)))))
        self.assert_core("(fn (x) (fn (x) x))", fn("0x", fn("1x", seen_at(1))))
        self.assert_core("(fn (x) (x (fn (x y) (x y)) x))",
                         fn("0x", call(seen_at(0), fn("1x 2y", call(seen_at(1), seen_at(2))), seen_at(0))))

    def test_a_place_is_seen_in_the_body_alone(self):
        self.assert_core("((fn (x) x) x)", call(fn("0x", seen_at(0)), free("x")))

    def test_core_words_as_params(self):
        self.assert_core("(fn (fn) (fn fn))", fn("0fn", call(seen_at(0), seen_at(0))))
        self.assert_core("(fn (pick mac now) (pick (mac) (now 1 2)))",
                         fn("0pick 1mac 2now", call(seen_at(0), call(seen_at(1)), call(seen_at(2), num(1), num(2)))))
        self.assert_core("(fn (now) (fn (x) (now x)))", fn("0now", fn("1x", call(seen_at(0), seen_at(1)))))

    def test_stretch_claims_and_sets(self):
        maker = made("(fn (x y) (fn (x) (x y)))")
        self.assertEqual(maker.stretches, [("fn", 0), ("fn", 6)])
        self.assertEqual(maker.claims.rows, [
            ("x", 3, 1, ("seen", 0)), ("y", 4, 1, ("seen", 1)), ("x", 9, 3, ("seen", 2)),
        ])

    def test_a_tree_with_a_set(self):
        maker = Maker()
        maker.stretch("part", 0)
        maker.stretch("part", 5)
        maker.put(tree_of("(fn (x) x)").marked(1))
        make(maker)
        self.assertEqual(maker.claims.rows, [("x", 3, 6, ("seen", 0))])
        self.assertEqual(maker.stretches[2], ("fn", 0))

    def test_another_make(self):
        for text in ("(fn)", "(fn x)", "(fn 1)", "(fn ())", "(fn (x))", "(fn x x)", "(fn 1 1)", "(fn x (x) x)",
                     "(fn (x) x x)",
                     "(fn (x) x y z)", "(fn (1) 1)", "(fn ((x)) x)", "(fn (x 1) x)", "(fn (*) 1)", "(fn (x *) 1)",
                     "(fn (=) 1)", "(fn (= x) 1)", "(fn (()) 1)", "(fn () )"):
            self.assert_wrong(text, BadForm, 0)

    def test_params_with_the_same_key(self):
        for text in ("(fn (x x) 1)", "(fn (x y x) 1)", "(fn (y x x) x)"):
            self.assert_wrong(text, BadForm, 0)

    def test_params_alike_in_name_alone(self):
        text = "(mac m (((a b) (fn (x a) (b x)))) (m x x))"
        self.assertEqual(cores_of(text), [fn("0x 1x", call(seen_at(1), seen_at(0)))])

    def test_what_is_wrong_in_the_body_is_told_there(self):
        self.assert_wrong("(fn (x) ())", BadForm, 5)


class PickAndNowTest(Making):
    def test_pick(self):
        self.assert_core("(pick 1 x (fn (y) y))", ("pick", num(1), free("x"), fn("0y", seen_at(0))))
        self.assert_core("(pick (pick 1 2 3) 4 5)", ("pick", ("pick", num(1), num(2), num(3)), num(4), num(5)))

    def test_now(self):
        self.assert_core("(now 7)", ("now", num(7)))
        self.assert_core("(now (add 1 (now x)))", ("now", call(free("add"), num(1), ("now", free("x")))))

    def test_another_make(self):
        for text in ("(pick)", "(pick 1)", "(pick 1 2)", "(pick 1 2 3 4)", "(now)", "(now 1 2)", "(now 1 2 3)"):
            self.assert_wrong(text, BadForm, 0)
            self.assert_wrong(f"(f {text})", BadForm, 2)

    def test_they_take_no_stretch(self):
        self.assertEqual(made("(pick 1 (now x) y)").stretches, [])


class MacTest(Making):
    def test_the_body_stands_in_its_place(self):
        self.assert_core("(mac m () 1)", num(1))
        self.assert_core("(mac m () (fn (x) (x y)))", fn("0x", call(seen_at(0), free("y"))))
        self.assert_core("(f (mac m () 1) 2)", call(free("f"), num(1), num(2)))
        self.assert_core("(mac m () (mac k () 1))", num(1))

    def test_it_is_used_in_the_body(self):
        self.assert_core("(mac m (((a) (a a))) (m 1))", call(num(1), num(1)))
        self.assert_core("(mac m (((a) (a a))) (fn (x) (m x)))", fn("0x", call(seen_at(0), seen_at(0))))

    def test_it_is_no_macro_outside_of_the_body(self):
        self.assert_core("((mac m (((a) a)) (m 1)) (m 1))", call(num(1), call(free("m"), num(1))))

    def test_the_inner_one_of_two(self):
        self.assert_core("(mac m ((() 1)) (mac m ((() 2)) (m)))", num(2))
        self.assert_core("(mac m ((() 1)) (f (mac m ((() 2)) (m)) (m)))", call(free("f"), num(2), num(1)))

    def test_a_place_that_hides_it(self):
        self.assert_core("(mac m ((() 1)) (fn (m) (m)))", fn("0m", call(seen_at(0))))

    def test_core_words_as_macros(self):
        self.assert_core("(mac fn (((a) (a 1))) (fn 7))", call(num(7), num(1)))
        self.assert_core("(mac now (((a) a)) (fn (x) (now x)))", fn("0x", seen_at(0)))
        self.assert_core("(mac mac ((() 5)) (mac))", num(5))

    def test_stretch_claim_and_macro(self):
        maker = made("(mac m (((a (= b)) (m a c))) (fn (x) x))")
        self.assertEqual(maker.stretches, [("mac", 0), ("fn", 19)])
        self.assertEqual(maker.claims.rows, [("m", 2, 1, ("macro", 0)), ("x", 22, 3, ("seen", 0))])
        macro = maker.macros[0]
        self.assertEqual((macro.name, macro.at, macro.bits), ("m", 2, 1))
        self.assertEqual([(seen(pattern), seen(template)) for pattern, template in macro.rules],
                         [("(a:1 (=:1 b:1))", "(m:1 a:1 c:1)")])

    def test_another_make(self):
        for text in ("(mac)", "(mac m)", "(mac m ())", "(mac m () 1 2)", "(mac 1 () 1)", "(mac (m) () 1)",
                     "(mac * () 1)",
                     "(mac = () 1)", "(mac m 1 1)", "(mac m a 1)", "(mac m * 1)", "(mac m (a) 1)", "(mac m (()) 1)",
                     "(mac m ((a)) 1)", "(mac m ((a b)) 1)", "(mac m (((a))) 1)", "(mac m (((a) b c)) 1)",
                     "(mac m ((1 (a))) 1)", "(mac m (((a) a) (b b)) 1)", "(mac m (((a) a) *) 1)", "(mac m (*) 1)"):
            self.assert_wrong(text, BadForm, 0)

    def test_a_bad_rule(self):
        for rule in ("((a a) 1)", "((a *) a)", "((*) 1)", "((a * *) 1)", "((= a) 1)", "((a (= 1)) 1)", "((a (b b)) a)",
                     "((a * b *) 1)", "(((a *) *) (a *))"):
            text = f"(mac m ({rule}) 1)"
            self.assert_wrong(text, BadRule, 5)

    def test_the_first_bad_rule_of_several(self):
        text = "(mac m (((a) a) ((b b) 1) ((c *) c)) 1)"
        self.assert_wrong(text, BadRule, at_of(text, "(", 5))
        self.assertEqual(read(text)[0].parts[2].parts[1].parts[0].at, at_of(text, "(", 5))

    def test_a_form_of_another_make_with_a_bad_rule(self):
        self.assert_wrong("(mac m (((a a) 1)))", BadForm, 0)
        self.assert_wrong("(mac m (((a a) 1) b) 1)", BadForm, 0)
        self.assert_wrong("(mac 1 (((a a) 1)) 1)", BadForm, 0)
        self.assert_wrong("(mac m (((a a) 1)) 1 2)", BadForm, 0)

    def test_a_bad_rule_stops_the_whole_form(self):
        text = "(mac m (((a a) 1)) ())"
        self.assert_wrong(text, BadRule, 5)

    def test_templates_are_not_looked_at_before_they_are_used(self):
        self.assert_core("(mac m (((a) ()) ((a b) (fn)) ((a b c) *)) 1)", num(1))

    def test_variables_alike_in_name_alone(self):
        text = "(mac k (((b) (mac m (((a b) (b a))) (m 1 2)))) (k a))"
        self.assertEqual(cores_of(text), [call(num(2), num(1))])

    def test_variables_of_one_key_that_come_in_by_a_use(self):
        text = "(mac k (((b) (mac m (((b b) 1)) (m 1 2)))) (k a))"
        pattern = read(text)[0].parts[2].parts[0].parts[1].parts[2].parts[0].parts[0]
        self.assert_wrong(text, BadRule, pattern.at)


class TopMacroTest(Making):
    def test_a_form_whose_word_is_claimed_at_the_top(self):
        maker = Maker()
        maker.top(Word("fn", 90))
        maker.put(tree_of("(fn (x) x)"))
        make(maker)
        self.assertEqual(outcome(maker), [call(seen_at(0), call(free("x")), free("x"))])


if __name__ == "__main__":
    unittest.main()
