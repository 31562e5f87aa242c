import unittest

from macrohouse.errors import BadForm, BadRule, NoFill, NoRule
from macrohouse.maker import Maker
from macrohouse.outcome import bare, outcome, outcome_words
from macrohouse.trees import Word
from macrohouse.turns import make
from tests.making import Making, at_of, call, cores_of, fn, free, made, num, put_in, seen_at, told
from tests.plain import refusal, tree_of, trees_of

WRONG = {
    "()": (BadForm, 0), "*": (BadForm, 0), "fn": (BadForm, 0), "(fn (x x) 1)": (BadForm, 0), "(now)": (BadForm, 0),
    "(mac m (((a a) 1)) 1)": (BadRule, 5), "(mac m () (m))": (NoRule, 5), "(mac m () m)": (BadForm, 5),
    "(mac m ((((a *) (b *)) (f (a b) *))) (m (1) ()))": (NoFill, 25), "(mac 1 () 1)": (BadForm, 0),
}


class CoresTest(Making):
    def test_each_kind(self):
        self.assertEqual(cores_of("7 x (fn (a b) (b c)) (f) (pick 1 2 3) (now 4)"), [
            ("num", 7), ("free", "x"), ("fn", ((0, "a"), (1, "b")), ("call", ("seen", 1), (("free", "c"),))),
            ("call", ("free", "f"), ()), ("pick", ("num", 1), ("num", 2), ("num", 3)), ("now", ("num", 4)),
        ])

    def test_kinds_of_the_values(self):
        cores = cores_of("(fn (a) (a 1 x))")
        self.assertIs(type(cores), list)
        core = cores[0]
        self.assertEqual([type(part) for part in core], [str, tuple, tuple])
        self.assertIs(type(core[1][0]), tuple)
        self.assertEqual([type(part) for part in core[2]], [str, tuple, tuple])

    def test_the_list_is_the_askers_own(self):
        maker = made("x (fn (y) y)")
        first = outcome(maker)
        first.append(1)
        first[0] = 2
        self.assertEqual(outcome(maker), [free("x"), fn("0y", seen_at(0))])

    def test_asking_again_tells_the_same(self):
        maker = made("(fn (x) (fn (y) (x y)))")
        self.assertEqual(outcome(maker), outcome(maker))
        self.assertEqual(maker.place(), 2)
        self.assertEqual(outcome(maker), [fn("0x", fn("1y", call(seen_at(0), seen_at(1))))])

    def test_sixty_within_one_another(self):
        core = cores_of("(" * 60 + "x" + ")" * 60)[0]
        for _ in range(60):
            self.assertEqual((core[0], core[2]), ("call", ()))
            core = core[1]
        self.assertEqual(core, free("x"))


class NumbersTest(Making):
    TEXT = "((fn (a) (fn (b c) (b a))) (fn (d) (fn () d))) (fn (e) (pick e (fn (f) f) (fn (g) g)))"

    def expected(self, first):
        a, b, c, d, e, f, g = range(first, first + 7)
        return [
            call(("fn", ((a, "a"),), ("fn", ((b, "b"), (c, "c")), call(seen_at(b), seen_at(a)))),
                 ("fn", ((d, "d"),), ("fn", (), seen_at(d)))),
            ("fn", ((e, "e"),), ("pick", seen_at(e), ("fn", ((f, "f"),), seen_at(f)), ("fn", ((g, "g"),), seen_at(g)))),
        ]

    def test_in_the_order_of_their_p_through_all_trees(self):
        self.assertEqual(cores_of(self.TEXT), self.expected(0))

    def test_in_whatever_order_they_were_made(self):
        for delays in ([1, 1, 1, 1, 1], [5, 4, 3, 2, 1], [2] * 20, [7] * 20):
            self.assertEqual(cores_of(self.TEXT, delays=delays), self.expected(0))
        maker = made(self.TEXT, delays=[1])
        self.assertEqual(maker.claims.rows[0][0], "e")

    def test_behind_the_top_ones(self):
        maker = Maker()
        for name in ("t", "u", "v"):
            maker.top(Word(name, 90))
        for tree in trees_of(self.TEXT):
            maker.put(tree)
        make(maker, [1, 2, 1])
        self.assertEqual(outcome(maker), self.expected(3))

    def test_trees_put_in_later_follow(self):
        maker = put_in("(fn (x) x)")
        make(maker)
        maker.put(tree_of("(fn (y) (fn (x) (x y)))"))
        make(maker, [0, 1])
        self.assertEqual(outcome(maker), [fn("0x", seen_at(0)), fn("1y", fn("2x", call(seen_at(2), seen_at(1))))])

    def test_what_a_use_leaves_out_has_no_number(self):
        text = "(mac m (((a b) b)) (f (m (fn (x) x) (fn (y) y)) (fn (z) z)))"
        self.assertEqual(cores_of(text), [call(free("f"), fn("0y", seen_at(0)), fn("1z", seen_at(1)))])

    def test_what_a_use_doubles_is_numbered_each_for_itself(self):
        text = "(mac m (((a) (a a))) (m (fn (x) x)))"
        self.assertEqual(cores_of(text), [call(fn("0x", seen_at(0)), fn("1x", seen_at(1)))])


class WrongTest(Making):
    def test_each_alone(self):
        for text, wrong in WRONG.items():
            self.assert_wrong(text, wrong[0], wrong[1])

    def test_of_two_the_one_that_goes_first(self):
        for one, first in WRONG.items():
            for other in WRONG:
                for around, ahead in (("ONE OTHER", 0), ("(f ONE OTHER)", 2), ("(fn (x) (f ONE OTHER))", 7),
                                      ("(pick ONE 1 OTHER)", 2), ("(mac k () ((now ONE) OTHER))", 8)):
                    self.hold(around.replace("ONE", one).replace("OTHER", other), first, ahead)

    def hold(self, text, wrong, ahead):
        for delays in (None, [1], [1, 1], [3, 2, 1], [0, 1, 2, 3, 4], [5] * 12):
            self.assertEqual(told(text, delays=delays), (wrong[0], wrong[1] + ahead, None), (text, delays))

    def test_the_place_in_the_outcome_not_in_the_text_goes_first(self):
        text = "(mac swap (((a b) (b a))) (swap () *))"
        self.assert_wrong(text, BadForm, at_of(text, "*"))
        text = "(mac swap (((a b) (b a))) (swap * ()))"
        self.assert_wrong(text, BadForm, at_of(text, "(", 6))

    def test_what_is_left_out_is_not_wrong(self):
        self.assert_core("(mac m (((a b) b)) (m () 1))", num(1))

    def test_it_refuses_so_again(self):
        maker = made("(f () (mac m () (m)))")
        for _ in range(3):
            error = refusal(outcome, maker)
            self.assertIs(type(error), BadForm)
            self.assertEqual((error.at, error.other), (2, None))

    def test_a_tree_that_is_right_does_not_help(self):
        self.assert_wrong("1 (f x) ()", BadForm, 5)
        self.assert_wrong("() 1 (f x)", BadForm, 0)


class WordsTest(Making):
    def test_in_the_order_of_the_outcome(self):
        text = "(f (fn (x y) (y 1 z)) (pick a (now b) c)) d"
        self.assertEqual(outcome_words(made(text)), [
            ("f", at_of(text, "f"), 0, None), ("y", at_of(text, "y", 1), 1, 1), ("z", at_of(text, "z"), 1, None),
            ("a", at_of(text, "a"), 0, None), ("b", at_of(text, "b"), 0, None), ("c", at_of(text, "c"), 0, None),
            ("d", at_of(text, "d"), 0, None),
        ])

    def test_kinds_of_the_values(self):
        words = outcome_words(made("(f x)"))
        self.assertIs(type(words), list)
        for word in words:
            self.assertIs(type(word), tuple)

    def test_names_places_and_sets_as_asked_for(self):
        text = "(mac m (((a) (fn (x) (a x b)))) (fn (x) (m x)))"
        maker = made(text)
        self.assertEqual(outcome_words(maker), [
            ("x", at_of(text, "x", 3), 27, 1), ("x", at_of(text, "x", 1), 21, 2), ("b", at_of(text, "b"), 21, None),
        ])
        for word in outcome_words(maker):
            self.assertIn(word, maker.asked)

    def test_in_whatever_order_the_same_words_and_claims(self):
        text = "(mac m (((a b) (fn (x) (a x b)))) (f (fn (x) (m x y)) (fn (y) (m y x))))"
        plain_one = made(text)
        for delays in ([], [0, 0, 1, 1, 1], [0, 0, 2, 1, 1, 0, 2, 5], [3] * 30):
            maker = made(text, delays=delays)
            self.assertEqual(self.told_by(maker), self.told_by(plain_one))

    def told_by(self, maker):
        words = outcome_words(maker)
        return [(name, at, None if claim is None else maker.claims.rows[claim][:2]) for name, at, bits, claim in words]

    def test_top_places(self):
        maker = Maker()
        maker.top(Word("x", 90))
        maker.put(tree_of("(fn (y) (y x))"))
        make(maker)
        self.assertEqual(outcome_words(maker), [("y", 6, 1, 1), ("x", 7, 1, 0)])

    def test_the_list_is_the_askers_own(self):
        maker = made("(f x)")
        first = outcome_words(maker)
        first.clear()
        self.assertEqual([word[0] for word in outcome_words(maker)], ["f", "x"])


class BareTest(unittest.TestCase):
    def test_names_of_params_alone(self):
        self.assertEqual(bare(num(5)), num(5))
        self.assertEqual(bare(free("x")), free("x"))
        self.assertEqual(bare(seen_at(3)), seen_at(3))
        self.assertEqual(bare(fn("0x 1y", call(seen_at(0), free("y")))),
                         ("fn", ((0, ""), (1, "")), call(seen_at(0), free("y"))))
        self.assertEqual(bare(("fn", (), num(1))), ("fn", (), num(1)))

    def test_at_whatever_depth(self):
        inner = fn("0x", seen_at(0))
        empty = ("fn", ((0, ""),), seen_at(0))
        for around in (
            lambda core: call(core), lambda core: call(num(1), core), lambda core: call(num(1), num(2), core, num(3)),
            lambda core: ("pick", core, num(1), num(2)), lambda core: ("pick", num(1), core, num(2)),
            lambda core: ("pick", num(1), num(2), core), lambda core: ("now", core),
            lambda core: ("fn", ((1, ""),), core),
        ):
            self.assertEqual(bare(around(inner)), around(empty))
            self.assertEqual(bare(around(around(inner))), around(around(empty)))

    def test_of_an_outcome(self):
        core = cores_of("(fn (x) (f (fn (y) (pick x y (now x))) z))")[0]
        self.assertEqual(bare(core), (
            "fn", ((0, ""),),
            call(free("f"), ("fn", ((1, ""),), ("pick", seen_at(0), seen_at(1), ("now", seen_at(0)))), free("z")),
        ))

    def test_alike_but_for_names(self):
        one = cores_of("(fn (x) (fn (y) (x y)))")[0]
        other = cores_of("(fn (a) (fn (a2) (a a2)))")[0]
        self.assertNotEqual(one, other)
        self.assertEqual(bare(one), bare(other))
        self.assertNotEqual(bare(one), bare(cores_of("(fn (x) (fn (y) (y x)))")[0]))


if __name__ == "__main__":
    unittest.main()
