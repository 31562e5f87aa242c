import random
import unittest

from macrohouse.fits import fitted
from macrohouse.rules import check_rule, variables
from macrohouse.trees import Figure, Row, is_name
from tests.plain import plain, refusal, seen, things, tree_of, trees_of
from tests.second import slow_fitted


def by_spelling(fixed, word):
    return fixed.name == word.name


def refused(fixed, word):
    raise AssertionError("asked where nothing is to be asked")


class Asker:
    """A `same` that keeps what it was asked."""

    def __init__(self):
        self.pairs = []

    def same(self, fixed, word):
        self.pairs.append((seen(fixed), seen(word)))
        return fixed.name == word.name


class Fits(unittest.TestCase):
    def found(self, pattern, trees, same=by_spelling):
        return fitted(tree_of(pattern), trees_of(trees), same)

    def assert_found(self, pattern, trees, expected):
        found = self.found(pattern, trees)
        self.assertIsNotNone(found, (pattern, trees))
        named = {(key if isinstance(key, tuple) else (key, 0)): thing for key, thing in expected.items()}
        self.assertEqual(things(found), named)

    def assert_none(self, pattern, trees):
        self.assertIsNone(self.found(pattern, trees), (pattern, trees))


class PiecesTest(Fits):
    def test_a_pattern_without_parts(self):
        self.assert_found("()", "", {})
        self.assert_none("()", "a")
        self.assert_none("()", "()")

    def test_any_tree_fits_a_variable(self):
        for tree in ("b", "a", "*", "=", "7", "()", "(b (c *))", "(= a)"):
            self.assert_found("(a)", tree, {"a": tree})

    def test_the_tree_is_found_as_it_is(self):
        trees = trees_of("b:4 (c:1 7)")
        found = fitted(tree_of("(a:2 a:3)"), trees, refused)
        self.assertIs(found[("a", 2)], trees[0])
        self.assertIs(found[("a", 3)], trees[1])

    def test_figures(self):
        self.assert_found("(7)", "7", {})
        self.assert_found("(-7 a 0)", "-7 0 0", {"a": "0"})
        for tree in ("8", "-7", "a", "(7)", "*", "()"):
            self.assert_none("(7)", tree)

    def test_a_figure_with_another_at(self):
        self.assertEqual(fitted(Row([Figure(7, 3)], 2), [Figure(7, 90)], refused), {})

    def test_great_figures(self):
        great = "9" * 60
        self.assert_found(f"({great})", great, {})
        self.assert_none(f"({great})", "9" * 59)

    def test_a_fixed_word(self):
        self.assert_found("((= a))", "a", {})
        self.assert_found("((= a) a)", "a b", {"a": "b"})
        self.assert_none("((= a))", "b")

    def test_what_is_no_name_never_fits_a_fixed_word(self):
        for tree in ("7", "()", "(a)", "(= a)", "*", "="):
            self.assertIsNone(self.found("((= a))", tree, lambda fixed, word: True))

    def test_a_pattern_within(self):
        self.assert_found("((a b))", "(1 2)", {"a": "1", "b": "2"})
        self.assert_found("(() (a))", "() (())", {"a": "()"})
        self.assert_found("(((a)) b)", "((x)) y", {"a": "x", "b": "y"})
        for tree in ("1", "a", "()", "(1)", "(1 2 3)", "*"):
            self.assert_none("((a b))", tree)

    def test_an_empty_pattern_within(self):
        self.assert_found("(())", "()", {})
        for tree in ("1", "a", "(1)", "(())"):
            self.assert_none("(())", tree)


class NumberTest(Fits):
    def test_without_a_star_just_as_many(self):
        self.assert_found("(a b)", "1 2", {"a": "1", "b": "2"})
        for trees in ("", "1", "1 2 3"):
            self.assert_none("(a b)", trees)

    def test_a_star_takes_what_is_left(self):
        self.assert_found("(a *)", "", {"a": []})
        self.assert_found("(a *)", "1", {"a": ["1"]})
        self.assert_found("(a *)", "1 () x", {"a": ["1", "()", "x"]})

    def test_ahead_and_behind(self):
        self.assert_found("(a b * c d)", "1 2 3", {"a": "1", "b": [], "c": "2", "d": "3"})
        self.assert_found("(a b * c d)", "1 2 3 4", {"a": "1", "b": ["2"], "c": "3", "d": "4"})
        self.assert_found("(a b * c d)", "1 2 3 4 5", {"a": "1", "b": ["2", "3"], "c": "4", "d": "5"})
        for trees in ("", "1", "1 2"):
            self.assert_none("(a b * c d)", trees)

    def test_at_the_begin_and_at_the_end(self):
        self.assert_found("(a * b)", "1 2 3", {"a": ["1", "2"], "b": "3"})
        self.assert_found("(a * b)", "1", {"a": [], "b": "1"})
        self.assert_none("(a * b)", "")
        self.assert_found("(a b *)", "1 2 3", {"a": "1", "b": ["2", "3"]})
        self.assert_none("(a b *)", "")

    def test_each_that_is_left_must_fit(self):
        self.assert_found("(7 *)", "7 7 7", {})
        self.assert_none("(7 *)", "7 8 7")
        self.assert_found("((= a) * b)", "a a c", {"b": "c"})
        self.assert_none("((= a) * b)", "a b c")
        self.assert_found("(a 7 * 8)", "1 7 7 8", {"a": "1"})
        self.assert_none("(a 7 * 8)", "1 7 8 7")
        self.assert_none("((a) *)", "(1) 2")


class ListsTest(Fits):
    def test_rows_taken_by_a_star(self):
        self.assert_found("((a b) *)", "(1 2) (3 4)", {"a": ["1", "3"], "b": ["2", "4"]})
        self.assert_found("((a b) *)", "", {"a": [], "b": []})

    def test_lists_of_lists(self):
        self.assert_found("((a b *) *)", "(1 2 3) (4) (5 6)", {"a": ["1", "4", "5"], "b": [["2", "3"], [], ["6"]]})
        self.assert_found("((a *) *)", "() (1) (2 3)", {"a": [[], ["1"], ["2", "3"]]})
        self.assert_found("(((a *) *) *)", "((1 2) ()) () ((3))", {"a": [[["1", "2"], []], [], [["3"]]]})

    def test_no_tree_at_any_depth_is_the_empty_list(self):
        self.assert_found("(((a * (b *)) *) c)", "() 1", {"a": [], "b": [], "c": "1"})
        self.assert_found("((((a *) *) *) * c)", "1", {"a": [], "c": "1"})

    def test_sets_tell_variables_apart(self):
        self.assert_found("(a:1 (a:2 *) a)", "1 (2 3) 4", {("a", 1): "1", ("a", 2): ["2", "3"], ("a", 0): "4"})

    def test_variables_within_patterns_without_a_star(self):
        self.assert_none("((((a) *)) b)", "((1) (2)) 3")
        self.assert_found("((((a) *)) b)", "(((1) (2))) 3", {"a": ["1", "2"], "b": "3"})

    def test_every_variable_has_its_key(self):
        pattern = tree_of("(a ((b (c *) (= d)) * 7) * e)")
        for trees in ("1 2", "1 (7) 2", "1 ((8 () d) 7) (7) 2", "1 ((8 (9 9) d) (8 () d) 7) 2"):
            found = fitted(pattern, trees_of(trees), by_spelling)
            self.assertEqual(set(found), set(variables(pattern)))


class SameTest(Fits):
    def asked(self, pattern, trees):
        asker = Asker()
        fitted(tree_of(pattern), trees_of(trees), asker.same)
        return asker.pairs

    def test_asked_with_the_fixed_word_first(self):
        self.assertEqual(self.asked("((= a:1))", "b:2"), [("a:1", "b:2")])

    def test_asked_with_the_very_words(self):
        pattern = tree_of("((= a))")
        trees = trees_of("b")
        kept = []
        self.assertEqual(fitted(pattern, trees, lambda fixed, word: kept.append((fixed, word)) or True), {})
        self.assertIs(kept[0][0], pattern.parts[0].parts[1])
        self.assertIs(kept[0][1], trees[0])

    def test_it_alone_tells_whether_they_fit(self):
        self.assertEqual(self.found("((= a))", "b", lambda fixed, word: True), {})
        self.assertIsNone(self.found("((= a))", "a", lambda fixed, word: False))

    def test_asked_from_left_to_right(self):
        self.assertEqual(self.asked("((= a) ((= b) c) (= d) * 7)", "a (b 1) d d 7"),
                         [("a", "a"), ("b", "b"), ("d", "d"), ("d", "d")])

    def test_nothing_behind_the_first_that_does_not_fit(self):
        self.assertEqual(self.asked("((= a) (= b) (= c))", "a x c"), [("a", "a"), ("b", "x")])
        self.assertEqual(self.asked("((= a) 7 (= c))", "a 8 c"), [("a", "a")])
        self.assertEqual(self.asked("(7 (= c))", "8 c"), [])
        self.assertEqual(self.asked("((= a) * (= b))", "a x a b"), [("a", "a"), ("a", "x")])
        self.assertEqual(self.asked("((= a) () (= c))", "a 8 c"), [("a", "a")])
        self.assertEqual(self.asked("((7 (= a)) (= c))", "(8 a) c"), [])
        self.assertEqual(self.asked("(((= a) 7) (= c))", "(a 8) c"), [("a", "a")])
        self.assertEqual(self.asked("(((= a) 7) * (= c))", "(a 7) (a 8) (a 7) c"), [("a", "a"), ("a", "a")])

    def test_nothing_of_what_is_no_name(self):
        for tree in ("7", "()", "(a)", "*", "="):
            self.assertEqual(self.asked("((= a) (= b))", tree + " b"), [])

    def test_nothing_where_the_number_is_wrong(self):
        self.assertEqual(self.asked("((= a) b)", "a"), [])
        self.assertEqual(self.asked("((= a) b)", "a 1 2"), [])
        self.assertEqual(self.asked("((= a) b * c)", "a"), [])
        self.assertEqual(self.asked("((= a) ((= b) c) (= d))", "a (b) d"), [("a", "a")])
        self.assertEqual(self.asked("((= a) ((= b) c) (= d))", "a (b 1 2) d"), [("a", "a")])

    def test_nothing_without_fixed_words(self):
        self.assertIsNotNone(self.found("(a (b *) 7)", "1 (2 3) 7", refused))

    def test_what_it_refuses_goes_on_to_the_asker(self):
        def stop(fixed, word):
            raise KeyError("stop")

        self.assertIs(type(refusal(fitted, tree_of("((= a))"), trees_of("a"), stop)), KeyError)


class OwnTest(Fits):
    def test_what_is_handed_in_stays(self):
        pattern = tree_of("(a ((b *) *) (= c) 7)")
        trees = trees_of("1 ((2 3) ()) c 7")
        before = (plain(pattern), [plain(tree) for tree in trees])
        fitted(pattern, trees, by_spelling)
        fitted(pattern, trees[:2], by_spelling)
        self.assertEqual((plain(pattern), [plain(tree) for tree in trees]), before)

    def test_what_was_given_is_the_askers_own(self):
        pattern = tree_of("(a * (b *))")
        trees = trees_of("1 2 (3 4)")
        first = fitted(pattern, trees, by_spelling)
        expected = things(first)
        first[("a", 0)].append(1)
        first[("b", 0)].clear()
        first.pop(("a", 0))
        self.assertEqual(things(fitted(pattern, trees, by_spelling)), expected)
        self.assertEqual([seen(tree) for tree in trees], ["1", "2", "(3 4)"])

    def test_a_change_of_the_trees_changes_nothing_given(self):
        trees = trees_of("1 2 3")
        found = fitted(tree_of("(a *)"), trees, by_spelling)
        trees.clear()
        self.assertEqual(things(found), {("a", 0): ["1", "2", "3"]})


def drawn_pattern(source, deep, names):
    pieces = []
    for _ in range(source.randrange(4)):
        choice = source.randrange(6)
        if choice < 2 and names:
            pieces.append(names.pop())
        elif choice == 2:
            pieces.append(source.choice("12"))
        elif choice == 3:
            pieces.append(source.choice(["(= p)", "(= q)"]))
        elif deep > 0:
            pieces.append(drawn_pattern(source, deep - 1, names))
    if pieces and source.random() < 0.6:
        pieces[source.randrange(len(pieces))] += " *"
    return "(" + " ".join(pieces) + ")"


def drawn_fit(source, pattern):
    """Trees that mostly fit the pattern."""
    texts = []
    for index, part in enumerate(pattern.parts):
        if seen(part) == "*":
            continue
        starred = index + 1 < len(pattern.parts) and seen(pattern.parts[index + 1]) == "*"
        for _ in range(source.randrange(3) if starred else 1):
            texts.append(drawn_one(source, part))
    if texts and source.random() < 0.05:
        texts.pop(source.randrange(len(texts)))
    return " ".join(texts)


def drawn_one(source, piece):
    text = seen(piece)
    if source.random() < 0.03:
        return source.choice(["1", "p", "()", "(1 p)"])
    if is_name(piece):
        return source.choice(["1", "x", "()", "(p 2)", "*"])
    if isinstance(piece, Figure):
        return text
    if text.startswith("(= "):
        return text[3:-1]
    return "(" + drawn_fit(source, piece) + ")"


class DrawnTest(unittest.TestCase):
    def test_against_a_second_telling(self):
        source = random.Random(18)
        told = {True: 0, False: 0}
        for _ in range(4000):
            pattern = tree_of(drawn_pattern(source, 3, ["a", "b", "c", "d", "e"]))
            self.assertIsNone(check_rule(pattern, Figure(0, 0)))
            trees = trees_of(drawn_fit(source, pattern))
            one = Asker()
            other = Asker()
            found = fitted(pattern, trees, one.same)
            expected = slow_fitted(pattern, trees, other.same)
            told[expected is None] += 1
            self.assertEqual(one.pairs, other.pairs)
            self.assertEqual(found is None, expected is None)
            if found is not None:
                self.assertEqual(things(found), things(expected))
        self.assertGreater(min(told.values()), 200)


if __name__ == "__main__":
    unittest.main()
