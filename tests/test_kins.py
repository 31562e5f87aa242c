"""Kins, and signs exchanged."""

import unittest

from macrohouse.errors import NoText
from macrohouse.house import made
from macrohouse.kins import exchanged, kins
from macrohouse.reader import signs_of
from tests.drawing import drawn_houses
from tests.houses import told_house
from tests.second_names import slow_kins


def labelled(text):
    """A text in which names of one kin have its number behind a colon, with an `f` ahead of the number where the
    kin is held fast. A name without one is a kin alone, held fast."""
    loose = {}
    fast = {}
    signs = []
    for at, sign in enumerate(text.replace("(", " ( ").replace(")", " ) ").split()):
        name, _, label = sign.partition(":")
        signs.append(name)
        if name[0].isalpha():
            (loose if label.isdigit() else fast).setdefault(label or str(at), []).append(at)
    return " ".join(signs), (list(loose.values()), list(fast.values()))


class KinsTest(unittest.TestCase):
    maxDiff = None

    def assert_kins(self, text, most=40):
        plain, expected = labelled(text)
        found = kins(made(plain, most))
        self.assertEqual(found, expected, text)
        self.assertIsInstance(found, tuple)
        return found

    def test_of_nothing(self):
        self.assertEqual(kins(made("")), ([], []))
        self.assert_kins("(part a)")
        self.assert_kins("(part a (tell) (show 1) (show -2)) (part b (use a))")

    def test_by_a_claim(self):
        self.assert_kins("(part a (def x:1 5) (show x:1) (show (add x:1 x:1)))")
        self.assert_kins("(part a (show (fn (x:1 y:2) (x:1 y:2 x:1))))")
        self.assert_kins("(part a (mac m:1 ((() 1))) (show (m:1)) (show (add (m:1) (m:1))))")
        self.assert_kins("(part a (show (mac m:1 ((() 1)) (m:1))))")
        self.assert_kins("(part a (show (x:1 x:1)) (def x:1 x:1))")

    def test_names_of_one_spelling_and_of_several_kins(self):
        self.assert_kins("(part a (def x:1 1) (show (fn (x:2) x:2)) (show (fn (x:3) (fn (x:4) x:4))) (show x:1))")
        self.assert_kins("(part a (def x:1 1) (show x:1)) (part b (def x:2 1) (show x:2)) (part c (show x))")
        self.assert_kins("(part a (mac m:1 (((x:2) (x:2 x:2)) ((x:3 y:4) x:3))) (show (m:1 x)) (show (m:1 1 x:5)))")
        self.assert_kins("(part x (def x:1 1) (tell (x:1 x))) (part y (use x (x:2 x)) (show x:2))")

    def test_a_name_that_none_of_this_befalls(self):
        self.assert_kins("(part a (def x:1 1) (show (fn (y:2) 1)) (mac m:3 (((z:4) 1))))")
        self.assert_kins("(part a (mac m:1 (((z:2) (f:3 g:4 f:5)) (((= k:6)) (fn:7 (x:8) x:9)))))")
        self.assert_kins("(part a (show (mac m:1 (((z:2) f:3)) 1)))")

    def test_free_names_are_held_fast_each_alone(self):
        self.assert_kins("(part a (show (f f (add f 1))))")

    def test_core_words_are_held_fast(self):
        self.assert_kins("(part a (show (fn () (pick 1 (now 2) (mac m:1 () 3)))))")

    def test_by_a_templates_word_and_its_patterns_variable(self):
        self.assert_kins("(part a (mac m:1 (((x:2 y:3) (y:3 x:2 x:2)))))")
        self.assert_kins("(part a (mac m:1 (((x:2 * (y:3 (z:4 *))) (y:3 x:2 * (z:4 *))))))")
        self.assert_kins("(part a (mac m:1 (((x:2) x:2) ((x:3) (x:3 y:4)))))")
        self.assert_kins("(part a (mac m:1 ((((= x:2) y:3) (x:4 y:3)))))")
        self.assert_kins("(part a (mac m:1 (((x:2 7 ((= x:3) z:4) *) (x:2 (z:4 x:2) *)))))")

    def test_a_template_that_was_put_in_place(self):
        self.assert_kins("(part a (mac m:1 (((x:2) (fn (t:3) (t:3 x:2 q))))) (show (fn (y:4) (m:1 y:4))))")
        self.assert_kins("(part a (def t:1 1) (mac m:2 (((x:3) (t:1 x:3)))) (show (fn (t:4) (m:2 t:4))))")

    def test_a_name_handed_in_that_claims(self):
        self.assert_kins("(part a (mac lam:1 (((x:2 b:3) (fn (x:2) b:3)))) (show (lam:1 y:4 (y:4 x))))")
        self.assert_kins("(part a (mac lam:1 (((x:2 b:3) (fn (x:2) b:3))))"
                         "(show (lam:1 y:4 y:4)) (show (lam:1 y:5 y:5)))")

    def test_by_a_third(self):
        # The last `z` means the first one in one place and the second one in another.
        self.assert_kins("(part a (mac m:1 (((x:2 y:3 b:4) (f (fn (x:2) b:4) (fn (y:3) b:4)))))"
                         "(show (m:1 z:5 z:5 z:5)))")
        self.assert_kins("(part a (mac m:1 (((x:2 y:3 b:4) (f (fn (x:2) b:4) (fn (y:3) 1)))))"
                         "(show (m:1 z:5 z:6 z:5)))")
        self.assert_kins("(part a (mac m:1 (((p:2) (mac i:3 (((q:4) (q:4 p:2))) (i:3 p:2)))))"
                         "(show (fn (z:5) (m:1 z:5))))")
        self.assert_kins("(part a (mac m:1 (((p:2 b:3) (mac p:2 (((q:4) (q:4 q:4))) b:3)))) (show (m:1 k:5 (k:5 1))))")

    def test_a_macro_that_a_macro_makes(self):
        text = "(part a (mac m:1 (((v:2) (mac i:3 (((v:2) (v:2 q))) (i:3 7))))) (show (m:1 x:4)))"
        self.assert_kins(text)
        self.assert_kins("(part a (mac m:1 (((v:2) (mac:3 i:4 (((w:5) (w:6 v:2))) (i:7 7))))))")

    def test_a_kin_held_fast_by_one_name_without_a_claim(self):
        self.assert_kins("(part a (mac m:1 (((x:2 b:3) ((fn (x:2) b:3) b:3)))) (show (m:1 y:f1 y:f1)))")
        self.assert_kins("(part a (mac m:1 (((x:2 b:3) ((fn (x:2) b:3) x:2))))"
                         "(show (m:1 y:f1 y:f1)) (show (m:1 z 1)))")
        self.assert_kins("(part a (mac m:1 (((b:2) (f (fn (y:3) b:2) b:2))))"
                         "(show (fn (y:4) (m:1 y:4))) (show (m:1 y)))")

    def test_uses_and_tells(self):
        self.assert_kins("(part a (def x:1 1) (tell (x:1 y) (x:1 x)))"
                         "(part b (use a (z:2 y) (y:3 x)) (show (z:2 y:3)))")
        self.assert_kins("(part a (tell (m:1 n)) (mac m:1 ((() 1))))"
                         "(part b (use a (k:2 n)) (show (k:2)) (tell (k:2 k)))")
        self.assert_kins("(part a (def x:1 1) (tell (x:1 x))) (part b (use a (x:2 x)))")

    def test_names_spelled_like_parts_and_items(self):
        self.assert_kins("(part part (def def:1 1) (def show:2 def:1) (show (show:2 def:1)) (tell (show:2 tell)))"
                         "(part tell (use part (use:3 tell)) (show (use:3 part)))")
        self.assert_kins("(part a (def part:1 1) (show part:1)) (part b (show (fn (fn:2) (fn:2 fn:2))))")

    def test_fixed_words(self):
        self.assert_kins("(part a (def to:1 0) (mac m:2 ((((= to:1) x:3) x:3))) (show (m:2 to:1 5)))")
        self.assert_kins("(part a (mac m:1 ((((= to) x:2) x:2))) (show (m:1 to 5)))")
        self.assert_kins("(part a (mac m:1 ((((= to) x:2) x:2) ((y:3 z:4) z:4))) (show (fn (to:5) (m:1 to:5 5))))")
        self.assert_kins("(part a (mac m:1 ((((= to:2) x:3) x:3) ((x:4) x:4))) (show (m:1 to)))")
        self.assert_kins("(part a (def to:1 1) (mac m:2 (((x:3 (= to:1)) 1) ((x:4 y:5) 2))) (tell (m:2 m) (to:1 to)))"
                         "(part b (use a (m:6 m) (until:7 to)) (show (m:6 1 until:7)) (show (m:6 1 to)))")

    def test_lists_of_its_own(self):
        house = made("(part a (def x 1) (show x))")
        first = kins(house)
        first[0][0].clear()
        first[1].clear()
        self.assertEqual(kins(house), ([[5, 10]], [[1], [2], [4], [9]]))

    def test_a_second_telling(self):
        counts = [0, 0]
        for drawer, text in drawn_houses(31, 900):
            if isinstance(told_house(text, 12), list):
                house = made(text, 12, drawer.delays())
                found = kins(house)
                self.assertEqual(found, slow_kins(house), text)
                self.assertEqual(found, kins(made(text, 12)), text)
                for which in (0, 1):
                    counts[which] += len([kin for kin in found[which] if len(kin) > 1])
        self.assertGreater(counts[0], 500)
        self.assertGreater(counts[1], 5)


class ExchangedTest(unittest.TestCase):
    def test_of_no_sign(self):
        self.assertEqual(exchanged("(part  a\n(show (f -1)))", [], "x"), "( part a ( show ( f -1 ) ) )")
        self.assertEqual(exchanged("", [], "x"), "")
        self.assertEqual(exchanged(" \n", [], "x"), "")

    def test_of_all(self):
        self.assertEqual(exchanged("(a 12 *)", [0, 1, 2, 3, 4], "x"), "x x x x x")

    def test_of_some(self):
        self.assertEqual(exchanged("(part a(def x (x y)))", [5, 7], "new9"), "( part a ( def new9 ( new9 y ) ) )")

    def test_in_any_order_and_more_than_once(self):
        ats = [4, 1, 4, 1, 4]
        self.assertEqual(exchanged("(a b c d)", ats, "z"), "( z b c z )")
        self.assertEqual(ats, [4, 1, 4, 1, 4])

    def test_it_is_cut_to_the_same_signs_else(self):
        text = "(part a\n (def x2 (fn (*) 7)))"
        self.assertEqual(signs_of(exchanged(text, [], "q")), signs_of(text))

    def test_what_is_no_text(self):
        with self.assertRaises(NoText):
            exchanged("(A)", [], "x")


if __name__ == "__main__":
    unittest.main()
