import itertools
import random
import unittest

from macrohouse.errors import BadForm, GoesOn, NoRule, TwoClaims
from macrohouse.maker import Maker
from macrohouse.outcome import outcome
from macrohouse.reader import read
from macrohouse.trees import Row, Word
from macrohouse.turns import make, turn
from tests.making import Making, call, fn, free, made, num, put_in, seen_at
from tests.plain import refusal, trees_of


def asked_names(text, delays):
    return [entry[0] for entry in made(text, delays=delays).asked]


def walked(text, delays):
    """The places of the words in the order in which [27] comes to them, of a text of calls alone."""
    waiting = read(text)
    words = []
    turns = 0
    while waiting:
        index = (delays[turns] if turns < len(delays) else 0) % len(waiting)
        tree = waiting[index]
        waiting[index:index + 1] = tree.parts if isinstance(tree, Row) else []
        if isinstance(tree, Word):
            words.append(tree.at)
        turns += 1
    return words, turns


class TreesTest(Making):
    def test_a_figure(self):
        self.assert_core("7", num(7))
        self.assert_core("-" + "9" * 60, num(-int("9" * 60)))

    def test_a_free_name(self):
        self.assert_core("x", free("x"))
        self.assert_core("part", free("part"))

    def test_a_word_that_is_no_name(self):
        for word in ("*", "="):
            self.assert_wrong(word, BadForm, 0)
            self.assert_wrong(f"(f {word})", BadForm, 2)
            self.assert_wrong(f"({word} f)", BadForm, 1)
            self.assert_wrong(f"(fn (x) {word})", BadForm, 5)

    def test_a_core_word_alone(self):
        for word in ("fn", "pick", "mac", "now"):
            self.assert_wrong(word, BadForm, 0)
            self.assert_wrong(f"(f {word})", BadForm, 2)
            self.assert_wrong(f"((g) {word})", BadForm, 4)

    def test_a_core_word_that_is_claimed(self):
        for word in ("fn", "pick", "mac", "now"):
            self.assert_core(f"(fn ({word}) {word})", fn(f"0{word}", seen_at(0)))
            self.assert_core(f"(fn ({word}) ({word}))", fn(f"0{word}", call(seen_at(0))))
            self.assert_wrong(f"(mac {word} () {word})", BadForm, 5)

    def test_a_macros_name_alone(self):
        self.assert_wrong("(mac m (((a) a)) m)", BadForm, 11)
        self.assert_wrong("(mac m (((a) a)) (f m))", BadForm, 13)
        self.assert_wrong("(mac m (((a) a)) (1 m))", BadForm, 13)

    def test_a_row_without_parts(self):
        self.assert_wrong("()", BadForm, 0)
        self.assert_wrong("(f ())", BadForm, 2)
        self.assert_wrong("(())", BadForm, 1)

    def test_calls(self):
        self.assert_core("(f)", call(free("f")))
        self.assert_core("(f x 1)", call(free("f"), free("x"), num(1)))
        self.assert_core("(1 2)", call(num(1), num(2)))
        self.assert_core("((f x) (g))", call(call(free("f"), free("x")), call(free("g"))))
        self.assert_core("((fn (x) x) 5)", call(fn("0x", seen_at(0)), num(5)))
        self.assert_core("((now 1))", call(("now", num(1))))

    def test_the_first_part_is_asked_for_at_the_row_and_as_a_part(self):
        maker = made("(f x)")
        self.assertEqual(set(maker.asked), {("f", 1, 0, None), ("x", 2, 0, None)})

    def test_a_first_part_that_is_no_name_is_no_form(self):
        self.assert_core("((fn (x) x) (y) y)", call(fn("0x", seen_at(0)), call(free("y")), free("y")))
        self.assert_wrong("(* (x) x)", BadForm, 1)


class TurnTest(Making):
    def test_nothing_to_come_to(self):
        maker = Maker()
        for pick in (0, 1, 5):
            self.assertIsNone(turn(maker, pick))
        self.assertEqual(outcome(maker), [])

    def test_one_place_a_turn(self):
        maker = put_in("a b c")
        turn(maker, 1)
        self.assertEqual([entry[0] for entry in maker.asked], ["b"])
        turn(maker, 1)
        self.assertEqual([entry[0] for entry in maker.asked], ["b", "c"])
        self.assertEqual(make(maker), 1)
        self.assertEqual(outcome(maker), [free("a"), free("b"), free("c")])

    def test_at_the_rest_by_the_length(self):
        for pick in (0, 3, 6, 3000000000000000000000):
            maker = put_in("a b c")
            turn(maker, pick)
            self.assertEqual([entry[0] for entry in maker.asked], ["a"])
        for pick in (2, 5, 8):
            maker = put_in("a b c")
            turn(maker, pick)
            self.assertEqual([entry[0] for entry in maker.asked], ["c"])

    def test_parts_come_where_the_row_stood(self):
        maker = put_in("a (1 b c) d")
        turn(maker, 1)
        for expected in ("c", "b", "d"):
            turn(maker, {"c": 3, "b": 2, "d": 2}[expected])
            self.assertEqual(maker.asked[-1][0], expected)

    def test_a_place_where_another_tree_came_to_stand_stays(self):
        maker = put_in("a (mac m (((x) (1 x b))) (m c)) d")
        turn(maker, 1)
        turn(maker, 1)
        self.assertEqual(len(maker.steps), 1)
        turn(maker, 1)
        turn(maker, 2)
        self.assertEqual(maker.asked[-1][0], "c")
        turn(maker, 2)
        self.assertEqual(maker.asked[-1][0], "b")
        turn(maker, 2)
        self.assertEqual(maker.asked[-1][0], "d")
        self.assertEqual(make(maker), 2)

    def test_what_is_wrong_goes_out(self):
        maker = put_in("() * (fn) a")
        for _ in range(3):
            turn(maker, 0)
        self.assertEqual([entry[0] for entry in maker.asked], ["fn"])
        turn(maker, 0)
        self.assertEqual(maker.asked[-1][0], "a")
        self.assertEqual(make(maker), 0)


class MakeTest(Making):
    def test_without_delays_from_the_outside_in_from_left_to_right(self):
        for delays in (None, [], [0], [0, 0, 0]):
            self.assertEqual(asked_names("(1 a (2 b (3 c) d) e) f", delays), ["a", "b", "c", "d", "e", "f"])

    def test_how_many_turns_there_were(self):
        for text, turns in (("", 0), ("1", 1), ("a b", 2), ("()", 1), ("(a)", 2), ("(a b (c))", 5), ("(fn (x y) x)", 2),
                            ("(pick 1 2 3)", 4), ("(now a)", 2), ("(mac m () 1)", 2),
                            ("(mac m (((a) (a a))) (m 1))", 5), ("(fn)", 1), ("(fn () ())", 2), ("* () x", 3)):
            self.assertEqual(make(put_in(text)), turns, text)
            self.assertEqual(make(put_in(text), [3, 1, 4, 1, 5]), turns, text)

    def test_the_delays(self):
        self.assertEqual(asked_names("a b c d", [3]), ["d", "a", "b", "c"])
        self.assertEqual(asked_names("a b c d", [1, 1, 1]), ["b", "c", "d", "a"])
        self.assertEqual(asked_names("a b c d", [4, 4, 4]), ["a", "c", "b", "d"])
        self.assertEqual(asked_names("a b c d", [0, 1, 0, 1, 7, 7]), ["a", "c", "b", "d"])
        self.assertEqual(asked_names("(1 a b) c", [0, 2, 1, 0]), ["b", "a", "c"])

    def test_all_short_delays_as_the_document_walks(self):
        for text in ("(1 a (2 b) c) d", "a (1 (2 b c) (3)) d"):
            for delays in itertools.product(range(4), repeat=5):
                maker = put_in(text)
                turns = make(maker, list(delays))
                self.assertEqual(([entry[1] for entry in maker.asked], turns), walked(text, delays))

    def test_drawn_long_delays_as_the_document_walks(self):
        source = random.Random(27)
        text = "(1 a (2 b (3 c d (4 e) f)) (5 (6 (7 g) h) i)) j (8 k (9 l m))"
        for _ in range(300):
            delays = [source.randrange(source.choice([2, 5, 10 ** 20])) for _ in range(source.randrange(40))]
            maker = put_in(text)
            turns = make(maker, delays)
            self.assertEqual(([entry[1] for entry in maker.asked], turns), walked(text, delays))

    def test_the_delays_are_not_changed(self):
        delays = [3, 1, 4]
        maker = put_in("(1 a (2 b) c) d")
        make(maker, delays)
        self.assertEqual(delays, [3, 1, 4])

    def test_the_delays_are_counted_anew_by_each_make(self):
        maker = put_in("a b c")
        make(maker, [2, 0, 0, 1])
        for tree in trees_of("d e f"):
            maker.put(tree)
        self.assertEqual(make(maker, [1, 1]), 3)
        self.assertEqual([entry[0] for entry in maker.asked], ["c", "a", "b", "e", "f", "d"])

    def test_by_the_names_of_the_arguments(self):
        maker = put_in("a b")
        self.assertEqual(make(delays=[1], maker=maker), 2)
        self.assertEqual([entry[0] for entry in maker.asked], ["b", "a"])

    def test_turns_and_make_together(self):
        maker = put_in("a b c")
        turn(maker, 2)
        self.assertEqual(make(maker), 2)
        self.assertEqual([entry[0] for entry in maker.asked], ["c", "a", "b"])

    def test_what_is_wrong_stops_nothing_else(self):
        maker = made("() (mac m () (m)) (fn (x x) 1) a (fn (y) (y b))")
        self.assertEqual([entry[0] for entry in maker.asked if entry[0] in "aby"][-3:], ["y", "y", "b"])
        self.assertIn("a", [entry[0] for entry in maker.asked])

    def test_it_refuses_nothing_but_goes_on(self):
        for text in ("()", "fn", "*", "(fn)", "(mac m (((a a) 1)) 1)", "(mac m () (m))"):
            self.assertGreater(make(put_in(text)), 0)
        self.assertIs(type(refusal(make, put_in("(mac m ((() (m))) (m))"))), GoesOn)


class TwoClaimsTest(unittest.TestCase):
    """Claims that the asker put: what has two of them is wrong like other things."""

    def maker(self, text):
        maker = Maker()
        maker.top(Word("x", 90))
        maker.top(Word("x", 80))
        for tree in trees_of(text):
            maker.put(tree)
        return maker

    def test_a_word_and_a_row(self):
        for text in ("x", "(f x)", "(x)", "(x ())", "(fn (y) x)"):
            for delays in ([], [1, 1, 1], [0, 1, 0]):
                maker = self.maker(text)
                make(maker, delays)
                for _ in range(2):
                    error = refusal(outcome, maker)
                    self.assertIs(type(error), TwoClaims)
                    self.assertEqual((error.at, error.other), (90, 80))

    def test_a_fixed_word(self):
        for text in ("(mac m ((((= x)) 1)) (m y))", "(mac m ((((= y)) 1)) (m x))"):
            maker = self.maker(text)
            make(maker)
            self.assertIs(type(refusal(outcome, maker)), TwoClaims)
            self.assertEqual(maker.steps, [])

    def test_the_one_that_goes_first(self):
        for text, kind in (("() x", BadForm), ("x ()", TwoClaims), ("(f (mac m () (m)) x)", NoRule)):
            for delays in ([], [1], [2, 1, 3]):
                maker = self.maker(text)
                make(maker, delays)
                self.assertIs(type(refusal(outcome, maker)), kind)

    def test_a_place_within_hides_them(self):
        maker = self.maker("(fn (x) x)")
        make(maker)
        self.assertEqual(outcome(maker), [fn("2x", seen_at(2))])


if __name__ == "__main__":
    unittest.main()
