import unittest

from macrohouse.errors import BadForm, GoesOn, NoFill, NoRule
from macrohouse.maker import Maker
from macrohouse.outcome import outcome
from macrohouse.trees import Word
from macrohouse.turns import make, turn
from tests.making import Making, at_of, call, cores_of, fn, free, made, num, put_in, seen_at, told
from tests.plain import refusal, seen, tree_of, trees_of


def stacked(deep, inside):
    """`inside` within that many calls of one part each."""
    return "(" * deep + inside + ")" * deep


class StepTest(Making):
    def test_the_first_rule_that_fits(self):
        text = "(mac m ((() 0) ((a) (a 1)) ((a b) (b a)) ((a *) (many a *)))"
        for use, core in (
            ("(m)", num(0)), ("(m x)", call(free("x"), num(1))), ("(m x y)", call(free("y"), free("x"))),
            ("(m 7 8 9)", call(free("many"), num(7), num(8), num(9))),
        ):
            self.assert_core(f"{text} {use})", core)

    def test_figures_and_patterns_within(self):
        text = "(mac m (((0) zero) (((a b)) (b a)) ((() c) c) ((a) other))"
        for use, core in (("(m 0)", free("zero")), ("(m 1)", free("other")), ("(m (x y))", call(free("y"), free("x"))),
                          ("(m ())", free("other")), ("(m () 5)", num(5)), ("(m (x))", free("other"))):
            self.assert_core(f"{text} {use})", core)

    def test_trees_of_a_use_need_be_no_forms(self):
        self.assert_core("(mac m (((a) 1)) (f (m ()) (m (fn)) (m *) (m fn) (m m) (m (= *))))",
                         call(free("f"), *[num(1)] * 6))

    def test_a_macro_used_within_its_own_body(self):
        text = "(mac sum ((() 0) ((a) a) ((a b *) (add a (sum b *)))) (sum 1 2 3))"
        self.assert_core(text, call(free("add"), num(1), call(free("add"), num(2), num(3))))

    def test_macros_that_use_one_another(self):
        text = "(mac one (((a) (f a))) (mac two (((a) (one (one a)))) (two 5)))"
        self.assert_core(text, call(free("f"), call(free("f"), num(5))))

    def test_a_macro_told_in_a_template(self):
        text = "(mac outer (((name body) (mac name (((x) (x x))) body))) (outer twice (twice 4)))"
        self.assert_core(text, call(num(4), num(4)))

    def test_a_macro_told_in_a_template_by_the_templates_own_name(self):
        # `twice` of the template is born in the step, that of the use is not: they never meet.
        text = "(mac outer (((body) (mac twice (((x) (x x))) body))) (outer (twice 4)))"
        self.assert_core(text, call(free("twice"), num(4)))

    def test_a_use_in_the_place_of_a_first_part(self):
        self.assert_core("(mac m ((() f)) ((m) 1))", call(free("f"), num(1)))

    def test_what_is_made_is_come_to_like_others(self):
        self.assert_core("(mac m (((a) (fn a 7))) (m (x y)))", fn("0x 1y", num(7)))
        self.assert_core("(mac m (((a *) (a *))) (m pick 1 2 3))", ("pick", num(1), num(2), num(3)))
        self.assert_core("(mac m ((() fn)) (mac k (((a) a)) 1))", num(1))

    def test_what_is_made_may_be_wrong(self):
        text = "(mac m ((() ())) (m))"
        self.assert_wrong(text, BadForm, at_of(text, "(", 4))
        text = "(mac m ((() fn)) (f (m)))"
        self.assert_wrong(text, BadForm, at_of(text, "fn"))

    def test_words_alone_after_a_use_do_not_make_a_use(self):
        text = "(mac m (((a) a)) (m m))"
        self.assert_wrong(text, BadForm, at_of(text, "m", 2))

    def test_one_step_one_turn(self):
        maker = put_in("(mac m (((a) (a a))) (m 1))")
        self.assertIsNone(turn(maker, 0))
        self.assertEqual(maker.steps, [])
        turn(maker, 0)
        self.assertEqual(len(maker.steps), 1)
        self.assertEqual(make(maker), 3)
        self.assertEqual(outcome(maker), [call(num(1), num(1))])

    def test_stretches_and_steps(self):
        maker = made("(mac m ((() 1) ((a b *) (c a b *))) (f (m x (y)) (m)))")
        self.assertEqual(maker.stretches[0], ("mac", 0))
        first = maker.steps[0]
        self.assertEqual((first[0], first[1], first[4], first[5]), (0, 1, 1, 2))
        self.assertEqual(maker.stretches[1:3], [("born", first[2].at), ("lent", first[2].at)])
        self.assertEqual((seen(first[2]), seen(first[3])), ("(m:1 x:1 (y:1))", "(c:3 x:5 (y:5))"))
        second = maker.steps[1]
        self.assertEqual((second[0], second[1], second[4], second[5]), (0, 0, 3, 4))
        self.assertEqual((seen(second[2]), seen(second[3])), ("(m:1)", "1"))
        self.assertEqual(maker.stretches[3:], [("born", second[2].at), ("lent", second[2].at)])


class NamesTest(Making):
    """Names mean what they meant where they were written."""

    def test_a_templates_place_does_not_take_a_uses_word(self):
        text = "(mac or (((a b) ((fn (t) (pick t t b)) a))) (fn (t) (or 0 t)))"
        self.assert_core(text, fn("0t", call(fn("1t", ("pick", seen_at(1), seen_at(1), seen_at(0))), num(0))))

    def test_a_uses_place_does_not_take_a_templates_word(self):
        text = "(mac m (((a) (add a 1))) (fn (add) (m add)))"
        self.assert_core(text, fn("0add", call(free("add"), seen_at(0), num(1))))

    def test_a_word_of_the_template_means_what_it_meant_at_the_macro(self):
        text = "(fn (x) (mac m (((a) (x a))) (fn (x) (m x))))"
        self.assert_core(text, fn("0x", fn("1x", call(seen_at(0), seen_at(1)))))

    def test_a_place_handed_in_takes_the_words_handed_in(self):
        text = "(mac let (((n v b) ((fn (n) b) v))) (let x 1 (add x y)))"
        self.assert_core(text, call(fn("0x", call(free("add"), seen_at(0), free("y"))), num(1)))

    def test_core_words_of_a_template_stay_core_words(self):
        text = "(mac k (((a) (fn (x) a))) (fn (fn) (k fn)))"
        self.assert_core(text, fn("0fn", fn("1x", seen_at(0))))

    def test_each_step_has_names_of_its_own(self):
        text = "(mac m ((((a *)) (f a *)) (((a *) b c *) ((fn (t) (m (a * t) c *)) b))) (m () 1 2))"
        self.assert_core(text, call(fn("0t", call(fn("1t", call(free("f"), seen_at(0), seen_at(1))), num(2))), num(1)))

    def test_a_macros_name_of_the_use_and_of_the_template(self):
        text = "(mac m (((a) (g a))) (mac k (((a) (m a))) (mac m (((a) (h a))) (f (k (m 1)) (m 2)))))"
        self.assert_core(text, call(free("f"), call(free("g"), call(free("h"), num(1))), call(free("h"), num(2))))

    def test_a_word_that_goes_through_two_uses(self):
        text = "(mac one (((a) (fn (x) (a x)))) (mac two (((a) (one (one a)))) (fn (x) (two x))))"
        # The inner `one` is itself handed in to the outer one, and comes behind its `x`.
        self.assert_core(text, fn("0x", fn("1x", call(fn("2x", call(seen_at(0), seen_at(2))), seen_at(1)))))

    def test_variables_of_a_macro_told_in_a_template(self):
        text = "(mac gen (((n p b) (mac n (((p) (p a))) b))) (gen k a (k 3)))"
        self.assert_core(text, call(num(3), free("a")))


class FixedWordTest(Making):
    HEAD = "(mac if (((c (= then) a (= else) b) (pick c a b)) ((c (= then) a) (pick c a 0)) ((a *) (no a *)))"

    def test_free_names_of_the_same_name(self):
        self.assert_core(f"{self.HEAD} (if 1 then 2 else 3))", ("pick", num(1), num(2), num(3)))
        self.assert_core(f"{self.HEAD} (if 1 then 2))", ("pick", num(1), num(2), num(0)))
        core = call(free("no"), num(1), free("when"), num(2), free("else"), num(3))
        self.assert_core(f"{self.HEAD} (if 1 when 2 else 3))", core)

    def test_a_free_name_and_a_place(self):
        text = f"{self.HEAD} (fn (then) (if 1 then 2)))"
        self.assert_core(text, fn("0then", call(free("no"), num(1), seen_at(0), num(2))))

    def test_a_place_and_a_free_name(self):
        text = f"(fn (else) {self.HEAD} (fn (x) (if 1 then 2 x 3))))"
        inner = call(free("no"), num(1), free("then"), num(2), seen_at(1), num(3))
        self.assert_core(text, fn("0else", fn("1x", inner)))

    def test_the_same_place(self):
        text = "(fn (else) (mac m ((((= else)) 1) ((a) 2)) (f (m else) (fn (else) (m else)))))"
        self.assert_core(text, fn("0else", call(free("f"), num(1), fn("1else", num(2)))))

    def test_the_same_place_by_another_use(self):
        text = "(fn (e) (mac m ((((= e)) 1) ((a) 2)) (mac k (((a) (m a))) (f (k e) (k g)))))"
        self.assert_core(text, fn("0e", call(free("f"), num(1), num(2))))

    def test_a_macro_is_the_same_as_itself(self):
        text = "(mac k () (mac m ((((= k)) 1) ((a) 2)) (f (m k) (mac k () (m k)) (m m))))"
        self.assert_core(text, call(free("f"), num(1), num(2), num(2)))

    def test_core_words_without_claims(self):
        self.assert_core("(mac m ((((= fn)) 1) ((a) 2)) (f (m fn) (m now)))", call(free("f"), num(1), num(2)))

    def test_two_names_with_one_meaning(self):
        maker = Maker()
        maker.claims.put("one", 90, 0, ("seen", maker.place()))
        maker.claims.put("two", 91, 0, ("seen", 0))
        maker.put(tree_of("(mac m ((((= one)) 1) ((a) 2)) (f (m two) (m three)))"))
        make(maker)
        self.assertEqual(outcome(maker), [call(free("f"), num(1), num(2))])

    def test_a_claim_of_the_same_name_but_another_meaning(self):
        text = "(fn (e) (mac m ((((= e)) 1) ((a) 2)) (mac e () (m e))))"
        self.assert_core(text, fn("0e", num(2)))

    def test_a_claim_and_a_free_name_of_the_same_name(self):
        # The template's `e` is free, the fixed word means the place: and the other way round.
        text = "(mac k (((f) (f e))) (fn (e) (mac m ((((= e)) 1) ((a) 2)) (k m))))"
        self.assert_core(text, fn("0e", num(2)))
        text = "(mac m ((((= e)) 1) ((a) 2)) (fn (e) (mac k (((f) (f e))) (k m))))"
        self.assert_core(text, fn("0e", num(2)))

    def test_both_are_asked_for_in_this_order(self):
        text = "(mac m ((((= p) (= q)) 1) ((a b) 2)) (m x q))"
        maker = made(text)
        asked = [entry[:2] for entry in maker.asked if entry[0] in ("p", "q", "x")]
        self.assertEqual(asked, [("p", at_of(text, "p")), ("x", at_of(text, "x"))])
        self.assertEqual(outcome(maker), [num(2)])

    def test_sets_with_which_they_are_asked_for(self):
        text = "(mac m ((((= p)) 1)) (m p))"
        maker = made(text)
        asked = [entry for entry in maker.asked if entry[0] == "p"]
        # The fixed word as it stands in the macro, the use's word with the lent stretch.
        self.assertEqual(asked, [("p", at_of(text, "p"), 1, None), ("p", at_of(text, "p", 1), 5, None)])

    def test_nothing_is_asked_where_the_number_is_wrong(self):
        maker = made("(mac m ((((= p)) 1) ((a b) 2)) (m p p))")
        self.assertEqual([entry for entry in maker.asked if entry[0] == "p"], [])


class NoRuleTest(Making):
    def test_no_rule_fits(self):
        for rules in ("", "(() 1)", "((a) 1)", "((a b c) 1)", "((a (b)) 1)", "((a 7) 1)", "((a (= y)) 1)"):
            text = f"(mac m ({rules}) (f (m 1 x)))"
            self.assert_wrong(text, NoRule, at_of(text, "m", 1) - 1)

    def test_told_at_the_use(self):
        text = "(mac m (((a) (k a))) (mac k ((() 1)) (fn (x) (m x))))"
        self.assertEqual(cores_of(text), [fn("0x", call(free("k"), seen_at(0)))])
        text = "(mac k ((() 1)) (mac m (((a) (k a))) (fn (x) (m x))))"
        self.assert_wrong(text, NoRule, at_of(text, "k", 1) - 1)

    def test_it_is_no_step(self):
        maker = made("(mac m () (f (m) (m 1)))")
        self.assertEqual(maker.steps, [])


class NoFillTest(Making):
    def test_lists_of_unlike_length(self):
        text = "(mac m ((((a *) (b *)) (f (a b) *))) (g (m (1 2) (3))))"
        self.assert_wrong(text, NoFill, at_of(text, "m", 1) - 1)
        self.assert_core("(mac m ((((a *) (b *)) (f (a b) *))) (m (1) (3)))", call(free("f"), call(num(1), num(3))))

    def test_two_hundred_signs_and_one_more(self):
        # The row, `f` and what is handed in.
        for count in (198, 199):
            text = f"(mac m (((a *) (f a *))) (g (m {'1 ' * count})))"
            if count == 198:
                self.assertEqual(made(text).steps[0][3].many, 200)
                self.assert_core(text, call(free("g"), call(free("f"), *[num(1)] * 198)))
            else:
                self.assert_wrong(text, NoFill, at_of(text, "m", 1) - 1)

    def test_two_hundred_signs_of_one_tree_handed_in(self):
        for count in (199, 200):
            text = f"(mac m (((a) a)) (m ({'1 ' * count})))"
            if count == 199:
                self.assertEqual(len(told(text)[0][2]), 198)
            else:
                self.assert_wrong(text, NoFill, at_of(text, "m", 1) - 1)

    def test_two_hundred_signs_of_a_template(self):
        for count in (199, 200):
            text = f"(mac m ((() ({'1 ' * count}))) (m))"
            if count == 199:
                self.assertEqual(len(told(text)[0][2]), 198)
            else:
                self.assert_wrong(text, NoFill, at_of(text, "m", 1) - 1)

    def test_a_depth_of_fifty_and_one_more(self):
        for deep in (50, 51):
            text = f"(mac m ((() {stacked(deep, '1')})) (m))"
            if deep == 50:
                self.assertEqual(len(made(text).steps), 1)
                self.assertIsInstance(told(text), list)
            else:
                self.assert_wrong(text, NoFill, at_of(text, "m", 1) - 1)

    def test_the_depth_of_the_place_counts(self):
        for around in (1, 20, 47):
            for made_deep in (49 - around, 50 - around, 51 - around):
                text = f"(mac m ((() {stacked(made_deep, '1')})) {stacked(around, '(m)')})"
                if around + made_deep <= 50:
                    self.assertIsInstance(told(text), list, (around, made_deep))
                else:
                    self.assert_wrong(text, NoFill, at_of(text, "m", 1) - 1)

    def test_the_depth_grows_by_one_in_each_form(self):
        for around, inner in (("(fn () HERE)", 1), ("(pick 1 2 HERE)", 1), ("(now HERE)", 1), ("(f HERE)", 1),
                              ("(HERE)", 1), ("(mac k () HERE)", 0), ("(fn (x) (now (mac k () (f HERE))))", 3)):
            for deep in (50 - inner, 51 - inner):
                text = f"(mac m ((() {stacked(deep, '1')})) {around.replace('HERE', '(m)')})"
                if deep + inner <= 50:
                    self.assertIsInstance(told(text), list, text)
                else:
                    self.assert_wrong(text, NoFill, at_of(text, "m", 1) - 1)

    def test_what_a_use_makes_has_the_depth_of_the_place(self):
        for deep in (48, 49):
            text = f"(mac k ((() {stacked(deep, '1')})) (mac m ((() (f (k)))) (f (m))))"
            if deep == 48:
                self.assertIsInstance(told(text), list)
            else:
                self.assert_wrong(text, NoFill, at_of(text, "k", 1) - 1)

    def test_words_and_figures_are_of_no_depth(self):
        self.assertIsInstance(told(f"(mac m ((() 1)) {stacked(50, '(m)')})"), list)
        text = f"(mac m ((() 1)) {stacked(51, '(m)')})"
        self.assert_wrong(text, NoFill, at_of(text, "m", 1) - 1)

    def test_depth_without_uses_is_not_bounded_by_it(self):
        self.assertIsInstance(told(stacked(60, "1")), list)

    def test_it_is_no_step(self):
        self.assertEqual(made(f"(mac m ((() {stacked(51, '1')})) (f (m) (m)))", 0).steps, [])


class GoesOnTest(Making):
    LOOP = "(mac m (((a *) (m a * 1))) (m))"

    def test_just_as_many_as_most(self):
        for most in (1, 2, 7, 40, 100):
            text = f"(mac m (((a) a)) (f {'(m 1) ' * most}))"
            self.assertEqual(len(made(text, most).steps), most)
            self.assertEqual(told(text, most), [call(free("f"), *[num(1)] * most)])

    def test_one_more(self):
        for most in (1, 2, 7, 40, 100):
            text = f"(mac m (((a) a)) (f {'(m 1) ' * (most + 1)}))"
            self.assert_wrong(text, GoesOn, at_of(text, "m", most + 1) - 1, most)

    def test_none(self):
        self.assert_wrong("(mac m (((a) a)) (m 1))", GoesOn, 11, 0)
        self.assertEqual(told("(mac m (((a) a)) 1)", 0), [num(1)])
        self.assertEqual(told("(mac m (((a) a)) (fn (m) (m 1)))", 0), [fn("0m", call(seen_at(0), num(1)))])

    def test_forty_where_nothing_is_told(self):
        maker = Maker()
        maker.put(tree_of(f"(mac m (((a) a)) (f {'(m 1) ' * 40}))"))
        make(maker)
        self.assertEqual(len(maker.steps), 40)
        maker = Maker()
        maker.put(tree_of(f"(mac m (((a) a)) (f {'(m 1) ' * 41}))"))
        self.assertIs(type(refusal(make, maker)), GoesOn)

    def test_making_ends(self):
        for most in (0, 1, 40, 100):
            self.assert_wrong(self.LOOP, GoesOn, 17 if most == 0 else at_of(self.LOOP, "m", 1) - 1, most)
        for text in ("(mac m ((() (m))) (m))", "(mac m ((() ((m) (m)))) (m))", "(mac m (((a) (m (a)))) (m 1))",
                     "(mac m (((a) (fn (x) (m x)))) (m 1))", "(mac m ((() (mac k ((() (m))) (k)))) (m))"):
            for most in (0, 5, 40, 100):
                self.assertIn(told(text, most)[0], (GoesOn, NoFill))

    def test_growing_trees_end_by_no_fill(self):
        text = "(mac m (((a *) (m a * a * 1))) (m))"
        self.assertIs(told(text, 100)[0], NoFill)
        text = "(mac m (((a) (f (m (a))))) (m 1))"
        self.assertIs(told(text, 100)[0], NoFill)

    def test_it_is_told_at_once_whatever_is_wrong(self):
        text = "(mac m (((a) a)) (f () (m) (m 1) (m 2)))"
        self.assert_wrong(text, GoesOn, at_of(text, "m", 3) - 1, 1)
        text = "(mac m (((a) a)) (f () (m) (m 1) (m 2)))"
        self.assert_wrong(text, BadForm, at_of(text, "(", 5), 2)

    def test_a_wrong_use_is_no_step(self):
        text = "(mac m (((a) a)) (f (m 1) (m) (m 1 2)))"
        self.assert_wrong(text, NoRule, at_of(text, "m", 2) - 1, 1)

    def test_steps_of_all_trees_count_together(self):
        maker = Maker(2)
        for tree in trees_of("(mac m (((a) a)) (m 1)) (mac m (((a) a)) (m 1))"):
            maker.put(tree)
        make(maker)
        maker.put(tree_of("(mac m (((a) a)) (m 1))"))
        error = refusal(make, maker)
        self.assertIs(type(error), GoesOn)
        self.assertEqual((error.at, error.other), (11, None))

    def test_a_turn_refuses_too(self):
        maker = put_in("(mac m (((a) a)) (m 1))", 0)
        turn(maker, 0)
        error = refusal(turn, maker, 0)
        self.assertIs(type(error), GoesOn)
        self.assertEqual((error.at, error.other), (11, None))

    def test_most_is_handed_in_by_place_and_by_name(self):
        for maker in (Maker(0), Maker(most=0)):
            maker.tell(Word("m", 90), [(tree_of("()"), tree_of("1"))])
            maker.put(tree_of("(m)"))
            self.assertIs(type(refusal(make, maker)), GoesOn)


if __name__ == "__main__":
    unittest.main()
