import unittest

from macrohouse.claims import Claims
from macrohouse.errors import BadForm, TwoClaims
from macrohouse.maker import Macro, Maker
from macrohouse.outcome import outcome, outcome_words
from macrohouse.reader import read
from macrohouse.rules import pieces
from macrohouse.trees import Word
from macrohouse.turns import make
from tests.making import call, free, fn, num, put_in, seen_at
from tests.plain import plain, refusal, seen, tree_of, trees_of


def rules(text):
    return [(row.parts[0], row.parts[1]) for row in trees_of(text)]


class MacroTest(unittest.TestCase):
    def test_fields(self):
        given = rules("((a) a) ((a b) b)")
        macro = Macro("m", 4, 6, given)
        self.assertEqual((macro.name, macro.at, macro.bits, macro.rules), ("m", 4, 6, given))
        self.assertIs(type(macro.rules), list)

    def test_by_the_names_of_the_arguments(self):
        macro = Macro(rules=[], bits=1, at=2, name="m")
        self.assertEqual((macro.name, macro.at, macro.bits, macro.rules), ("m", 2, 1, []))

    def test_the_list_handed_in_stays_the_askers_own(self):
        given = rules("((a) a)")
        macro = Macro("m", 4, 6, given)
        given.clear()
        self.assertEqual(len(macro.rules), 1)


class FreshTest(unittest.TestCase):
    def test_nothing_is_there_at_first(self):
        maker = Maker()
        self.assertIs(type(maker.claims), Claims)
        self.assertEqual(maker.claims.rows, [])
        for held in (maker.macros, maker.stretches, maker.steps, maker.asked):
            self.assertEqual(held, [])
            self.assertIs(type(held), list)
        self.assertEqual(make(maker), 0)
        self.assertEqual(outcome(maker), [])
        self.assertEqual(outcome_words(maker), [])

    def test_two_know_nothing_of_each_other(self):
        one = Maker()
        other = Maker()
        one.top(Word("x", 1))
        one.tell(Word("m", 2), rules("((a) a)"))
        one.stretch("part", 0)
        one.put(tree_of("(m x)"))
        make(one)
        self.assertEqual(outcome(one), [seen_at(0)])
        for held in (other.claims.rows, other.macros, other.stretches, other.steps, other.asked):
            self.assertEqual(held, [])
        self.assertEqual(other.place(), 0)
        other.put(tree_of("(m x)"))
        make(other)
        self.assertEqual(outcome(other), [call(free("m"), free("x"))])


class StretchTest(unittest.TestCase):
    def test_numbers_rise_from_nought(self):
        maker = Maker()
        self.assertEqual([maker.stretch("part", 4), maker.stretch("fn", 4), maker.stretch("born", 0)], [0, 1, 2])
        self.assertEqual(maker.stretches, [("part", 4), ("fn", 4), ("born", 0)])

    def test_those_of_the_maker_and_the_askers_own_are_numbered_together(self):
        maker = Maker()
        maker.stretch("part", 9)
        maker.put(tree_of("(fn (x) (mac m (((a) a)) (m x)))").marked(0))
        make(maker)
        self.assertEqual(maker.stretches, [("part", 9), ("fn", 0), ("mac", 5), ("born", 16), ("lent", 16)])
        self.assertEqual(maker.stretch("part", 30), 5)


class AskTest(unittest.TestCase):
    def test_a_claim_or_none(self):
        maker = Maker()
        maker.claims.put("x", 5, 1, ("seen", 7))
        self.assertEqual(maker.ask(Word("x", 3, 3)), 0)
        self.assertIsNone(maker.ask(Word("x", 4, 2)))
        self.assertIsNone(maker.ask(Word("y", 6, 3)))
        self.assertIsNone(maker.ask(Word("*", 8)))
        self.assertEqual(maker.asked, [("x", 3, 3, 0), ("x", 4, 2, None), ("y", 6, 3, None), ("*", 8, 0, None)])
        for entry in maker.asked:
            self.assertIs(type(entry), tuple)

    def test_meaning(self):
        maker = Maker()
        maker.claims.put("x", 5, 1, ("seen", 7))
        self.assertEqual(maker.meaning(Word("x", 3, 3)), ("seen", 7))
        self.assertIsNone(maker.meaning(Word("x", 4, 2)))
        self.assertEqual(maker.asked, [("x", 3, 3, 0), ("x", 4, 2, None)])

    def test_the_same_word_asked_for_more_than_once(self):
        maker = Maker()
        word = Word("x", 3)
        self.assertIsNone(maker.ask(word))
        maker.top(word)
        self.assertEqual(maker.ask(word), 0)
        self.assertEqual(set(maker.asked), {("x", 3, 0, None), ("x", 3, 0, 0)})

    def test_two_claims(self):
        maker = Maker()
        maker.top(Word("x", 4))
        maker.top(Word("x", 2))
        for asking in (maker.ask, maker.meaning):
            error = refusal(asking, Word("x", 9))
            self.assertIs(type(error), TwoClaims)
            self.assertEqual((error.at, error.other), (4, 2))


class PlaceTest(unittest.TestCase):
    def test_the_least_that_no_place_has_yet(self):
        maker = Maker()
        self.assertEqual([maker.place(), maker.place(), maker.place()], [0, 1, 2])

    def test_behind_top_and_fn(self):
        maker = Maker()
        self.assertEqual(maker.top(Word("x", 0)), 0)
        self.assertEqual(maker.place(), 1)
        maker.put(tree_of("(fn (a b) a)"))
        make(maker)
        self.assertEqual(maker.place(), 4)


class TopTest(unittest.TestCase):
    def test_it_claims_with_the_words_set(self):
        maker = Maker()
        maker.stretch("part", 0)
        self.assertEqual([maker.top(Word("x", 4)), maker.top(Word("x", 6, 1)), maker.top(Word("y", 9))], [0, 1, 2])
        self.assertEqual(maker.claims.rows,
                         [("x", 4, 0, ("seen", 0)), ("x", 6, 1, ("seen", 1)), ("y", 9, 0, ("seen", 2))])

    def test_words_mean_it(self):
        maker = Maker()
        maker.stretch("part", 0)
        maker.stretch("part", 1)
        maker.top(Word("x", 4))
        maker.top(Word("x", 6, 1))
        for bits in (0, 1, 2):
            maker.put(Word("x", 10 + bits, bits))
        make(maker)
        self.assertEqual(outcome(maker), [seen_at(0), seen_at(1), seen_at(0)])

    def test_they_keep_their_numbers(self):
        maker = Maker()
        maker.top(Word("x", 4))
        maker.top(Word("y", 5))
        for tree in trees_of("(fn (a) (a y)) (fn (x b) (x b)) x"):
            maker.put(tree)
        make(maker)
        self.assertEqual(outcome(maker), [
            fn("2a", call(seen_at(2), seen_at(1))), fn("3x 4b", call(seen_at(3), seen_at(4))), seen_at(0),
        ])

    def test_a_place_that_stands_nowhere_leaves_no_gap(self):
        maker = Maker()
        maker.top(Word("x", 4))
        maker.place()
        maker.put(tree_of("(fn (a) (a x))"))
        make(maker)
        self.assertEqual(outcome(maker), [fn("1a", call(seen_at(1), seen_at(0)))])


class TellTest(unittest.TestCase):
    def test_it_claims_with_the_words_set(self):
        maker = Maker()
        maker.stretch("part", 0)
        given = rules("((a) a)")
        self.assertEqual([maker.tell(Word("m", 4, 1), given), maker.tell(Word("k", 6), [])], [0, 1])
        self.assertEqual(maker.claims.rows, [("m", 4, 1, ("macro", 0)), ("k", 6, 0, ("macro", 1))])
        macro = maker.macros[0]
        self.assertIs(type(macro), Macro)
        self.assertEqual((macro.name, macro.at, macro.bits, macro.rules), ("m", 4, 1, given))
        self.assertEqual((maker.macros[1].name, maker.macros[1].rules), ("k", []))
        self.assertEqual(maker.stretches, [("part", 0)])

    def test_it_is_used(self):
        maker = Maker()
        maker.tell(Word("m", 40), rules("((a) (a a))"))
        maker.put(tree_of("(m 7)"))
        make(maker)
        self.assertEqual(outcome(maker), [call(num(7), num(7))])

    def test_the_list_handed_in_stays_the_askers_own(self):
        maker = Maker()
        given = rules("((a) (a a))")
        maker.tell(Word("m", 40), given)
        self.assertEqual(len(given), 1)
        given.clear()
        maker.put(tree_of("(m 7)"))
        make(maker)
        self.assertEqual(outcome(maker), [call(num(7), num(7))])

    def test_macros_are_numbered_together(self):
        maker = Maker()
        maker.tell(Word("m", 40), [])
        maker.put(tree_of("(mac k () (mac l () 1))"))
        make(maker)
        names = [(macro.name, macro.at, macro.bits) for macro in maker.macros]
        self.assertEqual(names, [("m", 40, 0), ("k", 2, 1), ("l", 7, 3)])
        self.assertEqual(maker.tell(Word("n", 50), []), 3)


class PutTest(unittest.TestCase):
    def test_nothing_is_told_and_nothing_done(self):
        maker = Maker()
        self.assertIsNone(maker.put(tree_of("(x y)")))
        self.assertEqual((maker.asked, maker.stretches, maker.claims.rows), ([], [], []))

    def test_the_tree_stays_as_it_was(self):
        text = "(mac m (((a (= else) b *) (fn (x) (a x b *)))) (fn (x y) (m x else y 1 (now 2))))"
        tree = read(text)[0]
        before = plain(tree)
        maker = Maker()
        maker.put(tree)
        make(maker)
        outcome(maker)
        self.assertEqual(plain(tree), before)
        self.assertEqual(len(maker.steps), 1)

    def test_one_tree_put_in_twice(self):
        tree = read("(fn (x) x)")[0]
        maker = Maker()
        maker.put(tree)
        maker.put(tree)
        make(maker)
        self.assertEqual(outcome(maker), [fn("0x", seen_at(0)), fn("1x", seen_at(1))])

    def test_trees_behind_make_are_made_by_the_next_one(self):
        maker = put_in("(fn (x) x) y")
        self.assertEqual(make(maker), 3)
        self.assertEqual(outcome(maker), [fn("0x", seen_at(0)), free("y")])
        maker.put(tree_of("(fn (y) (y 1))"))
        maker.put(tree_of("7"))
        self.assertEqual(make(maker), 5)
        self.assertEqual(outcome(maker), [
            fn("0x", seen_at(0)), free("y"), fn("1y", call(seen_at(1), num(1))), num(7),
        ])
        self.assertEqual(make(maker), 0)
        self.assertEqual([word[0] for word in outcome_words(maker)], ["x", "y", "y"])

    def test_a_tree_behind_make_in_a_stretch_of_its_own(self):
        maker = Maker()
        maker.stretch("part", 0)
        maker.tell(Word("m", 50, 1), rules("((a:1) (a:1 b:1))"))
        maker.put(tree_of("(m 1)").marked(0))
        make(maker)
        number = maker.stretch("part", 9)
        self.assertEqual(number, 3)
        maker.put(tree_of("(m 1)").marked(number))
        maker.put(tree_of("(m 2)").marked(0))
        make(maker)
        self.assertEqual(outcome(maker), [
            call(num(1), free("b")), call(free("m"), num(1)), call(num(2), free("b")),
        ])

    def test_what_is_wrong_behind_what_was_right(self):
        maker = put_in("1")
        make(maker)
        maker.put(tree_of("()"))
        make(maker)
        self.assertIs(type(refusal(outcome, maker)), BadForm)
        self.assertIs(type(refusal(outcome, maker)), BadForm)


class HeldTest(unittest.TestCase):
    TEXT = "(mac m (((a) (fn (x) (a x)))) (fn (x) (m x)))"

    def test_claims(self):
        maker = put_in(self.TEXT)
        make(maker)
        self.assertEqual(maker.claims.rows, [
            ("m", 2, 1, ("macro", 0)), ("x", 23, 3, ("seen", 0)), ("x", 11, 21, ("seen", 1)),
        ])

    def test_macros(self):
        maker = put_in(self.TEXT)
        make(maker)
        self.assertEqual(len(maker.macros), 1)
        macro = maker.macros[0]
        self.assertEqual((macro.name, macro.at, macro.bits), ("m", 2, 1))
        self.assertEqual([(seen(pattern), seen(template)) for pattern, template in macro.rules],
                         [("(a:1)", "(fn:1 (x:1) (a:1 x:1))")])
        self.assertIs(type(macro.rules[0]), tuple)
        self.assertEqual((macro.rules[0][0].at, macro.rules[0][1].at), (5, 8))
        self.assertEqual(len(pieces(macro.rules[0][0])), 1)

    def test_stretches(self):
        maker = put_in(self.TEXT)
        make(maker)
        self.assertEqual(maker.stretches, [("mac", 0), ("fn", 20), ("born", 25), ("lent", 25), ("fn", 8)])

    def test_steps(self):
        maker = put_in(self.TEXT)
        make(maker)
        self.assertEqual(len(maker.steps), 1)
        step = maker.steps[0]
        self.assertIs(type(step), tuple)
        self.assertEqual((step[0], step[1], step[4], step[5]), (0, 0, 2, 3))
        self.assertEqual((seen(step[2]), step[2].at), ("(m:3 x:3)", 25))
        self.assertEqual((seen(step[3]), step[3].at), ("(fn:5 (x:5) (x:11 x:5))", 8))

    def test_asked(self):
        maker = put_in(self.TEXT)
        make(maker)
        self.assertEqual(set(maker.asked), {
            ("mac", 1, 0, None), ("fn", 21, 1, None), ("m", 26, 3, 0), ("fn", 9, 5, None), ("x", 27, 27, 1),
            ("x", 15, 21, 2),
        })

    def test_asked_in_whatever_order(self):
        plain_one = put_in("(a (fn (x) (x b)) (now c))")
        make(plain_one)
        other = put_in("(a (fn (x) (x b)) (now c))")
        make(other, [0, 2, 1, 1, 0, 2])
        self.assertEqual(sorted(set(plain_one.asked), key=str), sorted(set(other.asked), key=str))

    def test_what_a_trial_asks_for_is_kept_too(self):
        text = "(mac m ((((= p) a) a) (((= q) a) (a))) (m q 7))"
        maker = put_in(text)
        make(maker)
        asked = {entry[:2] for entry in maker.asked}
        self.assertIn(("p", 8), asked)
        self.assertIn(("q", 18), asked)
        self.assertIn(("q", 29), asked)
        self.assertEqual(maker.steps[0][1], 1)


if __name__ == "__main__":
    unittest.main()
