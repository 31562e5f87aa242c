import itertools
import random
import unittest

from macrohouse.errors import BadRule
from macrohouse.rules import check_rule, fixed_word, pieces, variables
from macrohouse.trees import Figure, Row, Word
from tests.plain import plain, refusal, seen, tree_of

# Bad of themselves, wherever in a pattern they stand as a row.
BAD_ROWS = (
    "(*)", "(* a)", "(* *)", "(a * *)", "(a * * b)", "(a * b *)", "(a b * c *)", "(a * b c *)", "(() * () *)",
    "(1 * 2 *)", "(= * a)", "(= a *)", "((= a) * (= b) *)",
    "(=)", "(= 1)", "(= a b)", "(= *)", "(= =)", "(= (a))", "(= ())", "(a = b)", "(a =)", "(1 =)", "(a = *)",
    "(= a 1)", "(= = a)", "(a (=))", "(a (= 1))", "(a (= b c))", "(a (= b *))", "(a (*))", "((* a))", "((a * *))",
    "(a ((b * c *)))", "((= a) =)", "((a *) * (b *) *)",
    "(a a)", "(a (a))", "((a) (a))", "(a * a)", "((a *) a)", "(a ((a *) *))", "(a:3 b (c a:3))",
)
GOOD_ROWS = (
    "()", "(a)", "(a b)", "(1)", "(1 1)", "(-3 a)", "(())", "(() ())", "((= a))", "((= a) (= a))", "((= a) a)",
    "(a *)", "(a * b)", "(a b * c)", "(a b *)", "(() *)", "(1 *)", "((= a) *)", "((a b) *)", "((a *) *)",
    "((a *) (b *))", "((a *) (b *) *)", "(((a *) *) *)", "((a * b) * c)", "((a (b *)) *)", "(fn pick mac now)",
    "(a:1 a:2)", "(a a:1)", "(a:1 (a:2 (a:3)))", "((a:1 *) a:2)", "(a:1 b:1)", "(a *:5 b)", "((=:3 a:1) a:1)",
    "(a (b) * (c *))",
)


def parts_of(pairs):
    return [(seen(tree), starred) for tree, starred in pairs]


class Refused(unittest.TestCase):
    def assert_bad(self, at, function, *given):
        error = refusal(function, *given)
        self.assertIs(type(error), BadRule, [seen(tree) for tree in given])
        self.assertEqual((error.at, error.other), (at, None))


class PiecesTest(Refused):
    def test_without_a_star(self):
        self.assertEqual(pieces(tree_of("()")), [])
        self.assertEqual(parts_of(pieces(tree_of("(a 1 (b *) (= c))"))),
                         [("a", False), ("1", False), ("(b *)", False), ("(= c)", False)])

    def test_with_a_star(self):
        self.assertEqual(parts_of(pieces(tree_of("(a *)"))), [("a", True)])
        self.assertEqual(parts_of(pieces(tree_of("(a * b)"))), [("a", True), ("b", False)])
        self.assertEqual(parts_of(pieces(tree_of("(a 7 * b)"))), [("a", False), ("7", True), ("b", False)])
        self.assertEqual(parts_of(pieces(tree_of("(a (b *) *)"))), [("a", False), ("(b *)", True)])
        self.assertEqual(parts_of(pieces(tree_of("((= a) *)"))), [("(= a)", True)])

    def test_a_star_with_a_set_is_a_star(self):
        self.assertEqual(parts_of(pieces(tree_of("(a *:9 b)"))), [("a", True), ("b", False)])
        self.assert_bad(0, pieces, tree_of("(a *:9 b *:2)"))

    def test_it_gives_tuples_of_the_very_trees_and_truths(self):
        row = tree_of("(a (b) *)")
        found = pieces(row)
        self.assertIs(found[0][0], row.parts[0])
        self.assertIs(found[1][0], row.parts[1])
        for piece in found:
            self.assertIs(type(piece), tuple)
            self.assertIs(type(piece[1]), bool)

    def test_a_row_that_begins_with_equals_is_looked_at_like_others(self):
        self.assertEqual(parts_of(pieces(tree_of("(= a)"))), [("=", False), ("a", False)])
        self.assertEqual(parts_of(pieces(tree_of("(= * a)"))), [("=", True), ("a", False)])
        self.assertEqual(parts_of(pieces(tree_of("(= a b *)"))), [("=", False), ("a", False), ("b", True)])
        self.assert_bad(0, pieces, tree_of("(= * a *)"))

    def test_it_does_not_look_into_the_parts(self):
        self.assertEqual(parts_of(pieces(tree_of("((* *) (a a) a a (=))"))),
                         [("(* *)", False), ("(a a)", False), ("a", False), ("a", False), ("(=)", False)])

    def test_a_star_at_the_begin(self):
        for text in ("(*)", "(* a)", "(* *)", "(* a *)", "(*:4 a)"):
            self.assert_bad(0, pieces, tree_of(text))

    def test_a_star_behind_a_star(self):
        for text in ("(a * *)", "(a * * b)", "(a b * *)", "(a * * *)"):
            self.assert_bad(0, pieces, tree_of(text))

    def test_a_second_piece_with_a_star(self):
        for text in ("(a * b *)", "(a * b c *)", "(a b * c d * e)", "(a * () *)", "(1 * 1 *)"):
            self.assert_bad(0, pieces, tree_of(text))

    def test_refused_at_the_row(self):
        self.assert_bad(7, pieces, Row([Word("*", 9)], 7))
        self.assert_bad(3, pieces, tree_of("(a b (* c))").parts[2])

    def test_the_list_is_the_askers_own(self):
        row = tree_of("(a (b *) *)")
        before = plain(row)
        first = pieces(row)
        first.append(1)
        first[0] = 2
        self.assertEqual(parts_of(pieces(row)), [("a", False), ("(b *)", True)])
        self.assertEqual(plain(row), before)


class FixedWordTest(unittest.TestCase):
    def test_a_fixed_word(self):
        tree = tree_of("(= a:5)")
        self.assertIs(fixed_word(tree), tree.parts[1])
        for text in ("(= abc)", "(=:3 fn)", "(= x1)"):
            tree = tree_of(text)
            self.assertIs(fixed_word(tree), tree.parts[1])

    def test_none(self):
        for text in ("a", "=", "*", "1", "()", "(=)", "(a)", "(= 1)", "(= *)", "(= =)", "(= (a))", "(= a b)", "(= a *)",
                     "(a =)", "(a b)", "(a = b)", "((=) a)", "((= a))", "((= a) b)", "(* a)", "(1 a)"):
            self.assertIsNone(fixed_word(tree_of(text)), text)


class VariablesTest(unittest.TestCase):
    def test_none(self):
        for text in ("()", "(1 2)", "((= a) (= b))", "((() *) 1 (2 (= c) *))"):
            self.assertEqual(variables(tree_of(text)), {})

    def test_depths(self):
        self.assertEqual(variables(tree_of("(a b (c ((d))))")), {("a", 0): 0, ("b", 0): 0, ("c", 0): 0, ("d", 0): 0})
        self.assertEqual(variables(tree_of("(a * b)")), {("a", 0): 1, ("b", 0): 0})
        self.assertEqual(variables(tree_of("(a (b c *) * (= d))")), {("a", 0): 0, ("b", 0): 1, ("c", 0): 2})
        self.assertEqual(variables(tree_of("((((a *)) *) (b (c *)))")),
                         {("a", 0): 2, ("b", 0): 0, ("c", 0): 1})
        self.assertEqual(variables(tree_of("((((a *) *) *) *)")), {("a", 0): 4})

    def test_keys_have_the_sets(self):
        self.assertEqual(variables(tree_of("(a:1 (a:2 *) a)")), {("a", 1): 0, ("a", 2): 1, ("a", 0): 0})

    def test_the_fixed_words_name_is_no_variable(self):
        self.assertEqual(variables(tree_of("((= a) a *)")), {("a", 0): 1})

    def test_the_dict_is_the_askers_own(self):
        pattern = tree_of("(a (b *))")
        before = plain(pattern)
        first = variables(pattern)
        first[("a", 0)] = 9
        first.clear()
        self.assertEqual(variables(pattern), {("a", 0): 0, ("b", 0): 1})
        self.assertEqual(plain(pattern), before)


class BadPatternTest(Refused):
    def test_good_ones(self):
        for text in GOOD_ROWS:
            self.assertIsNone(check_rule(tree_of(text), Figure(1, 0)), text)

    def test_bad_ones(self):
        for text in BAD_ROWS:
            self.assert_bad(0, check_rule, tree_of(text), Figure(1, 0))

    def test_a_fixed_word_is_no_pattern(self):
        # As a piece it may stand, as the whole pattern its first piece is a word that is no name.
        self.assertIsNone(check_rule(tree_of("((= a))"), Figure(1, 0)))
        self.assert_bad(0, check_rule, tree_of("(= a)"), Figure(1, 0))

    def test_bad_ones_within_are_refused_at_the_whole_pattern(self):
        for text in BAD_ROWS:
            inner = tree_of(text)
            starred = Row([Word("q", 41), inner, Word("*", 42)], 40)
            for pattern in (Row([inner], 40), starred, Row([Row([inner], 41)], 40)):
                self.assert_bad(40, check_rule, pattern, Figure(1, 60))

    def test_good_ones_within_stay_good(self):
        for text in GOOD_ROWS:
            for pattern in (Row([tree_of(text)], 40), Row([Word("q", 41), tree_of(text), Word("*", 42)], 40)):
                self.assertIsNone(check_rule(pattern, Figure(1, 60)), text)

    def test_alike_in_name_or_in_set_alone(self):
        self.assertIsNone(check_rule(tree_of("(a:1 (a:2) ((a:3) *))"), Figure(1, 0)))
        self.assertIsNone(check_rule(tree_of("(a:1 (b:1) ((c:1) *))"), Figure(1, 0)))

    def test_of_one_key_at_different_depths(self):
        for text in ("(a:2 ((a:2) *))", "((a:2 *) ((a:2)))", "(((a:2 b) *) (c a:2))"):
            self.assert_bad(0, check_rule, tree_of(text), Figure(1, 0))

    def test_fixed_words_of_one_key_are_no_variables(self):
        self.assertIsNone(check_rule(tree_of("((= a) (= a) a)"), tree_of("a")))


class TemplateTest(Refused):
    def assert_rule(self, good, pattern, template):
        pattern = tree_of(pattern)
        template = tree_of(template)
        if good:
            self.assertIsNone(check_rule(pattern, template), seen(template))
        else:
            self.assert_bad(pattern.at, check_rule, pattern, template)

    def test_any_tree_without_variables(self):
        for template in ("1", "b", "*", "=", "()", "(*)", "(* *)", "(= *)", "(= b c)", "(b * *)", "((b *) * 1 *)",
                         "(* b)"):
            for pattern in ("()", "(a)", "(a *)", "((a *) *)"):
                self.assert_rule(True, pattern, template)

    def test_depth_nought(self):
        for template in ("a", "(a)", "(a a)", "(a *)", "((a *) *)", "(a * *)", "(* a)", "(= a)", "((= a) * a)"):
            self.assert_rule(True, "(a)", template)

    def test_depth_one(self):
        for template in ("(a *)", "(a * a *)", "((a) *)", "((a a) *)", "((b (a)) *)", "(a * *)", "((a *) *)",
                         "(b a * c)", "((b a *))", "(* a *)", "((a b) * *)", "((= a) *)"):
            self.assert_rule(True, "(a *)", template)
        for template in ("a", "(a)", "(b a)", "(a b *)", "(a * a)", "((a) b *)", "(* a)", "(a * b a)", "(a (a) *)",
                         "((a *) a)", "(* (a))", "(b * a)", "(= a)"):
            self.assert_rule(False, "(a *)", template)

    def test_depth_two(self):
        for template in ("((a *) *)", "(((a *)) *)", "((b (a *)) *)", "((a * a *) *)", "((a * *) * *)", "(((a *) *) *)",
                         "(((a) *) *)"):
            self.assert_rule(True, "((a *) *)", template)
        for template in ("a", "(a *)", "(a * *)", "((a) *)", "((a *))", "((a a *) *)", "((a *) (a) *)", "(((a *) a) *)",
                         "((a *) * a *)", "((a b *) *)", "(a * (a *) *)"):
            self.assert_rule(False, "((a *) *)", template)

    def test_variables_of_several_depths(self):
        pattern = "(a (b (c *)) *)"
        for template in ("((a b (c *)) *)", "((a b a) *)", "(a b * (c *) *)", "(((b c) *) *)", "(((a b c) *) *)",
                         "((a (b *) (c *)) *)"):
            self.assert_rule(True, pattern, template)
        for template in ("((b c) *)", "(a b c *)", "((a b) (c *) *)", "(((a b) c *) *  b)", "((a c *) b)"):
            self.assert_rule(False, pattern, template)

    def test_words_alike_in_name_or_in_set_alone_are_no_variables(self):
        self.assert_rule(True, "(a:1 *)", "(a:2 a b:1 (a:3))")
        self.assert_rule(False, "(a:1 *)", "(a:2 a b:1 (a:1))")
        self.assert_rule(True, "(a:1 *)", "(a:2 a b:1 (a:1) *)")
        self.assert_rule(True, "(a:1 a:2 *)", "(a:1 a:2 *)")
        self.assert_rule(False, "(a:1 a:2 *)", "(a:2 a:1 *)")

    def test_a_star_with_a_set_is_a_star(self):
        self.assert_rule(True, "(a *:3)", "(a *:9)")

    def test_the_name_of_a_fixed_word_is_no_variable(self):
        self.assert_rule(True, "((= a) *)", "(a (a))")

    def test_refused_at_the_pattern(self):
        self.assert_bad(30, check_rule, Row([Word("a", 31), Word("*", 32)], 30), Word("a", 50))
        self.assert_bad(30, check_rule, Row([Word("a", 31), Word("*", 32)], 30), Row([Word("a", 51)], 50))

    def test_nothing_is_changed(self):
        for pattern, template in (("(a * (b *))", "((a b) * 1)"), ("(a *)", "(a)"), ("(a a)", "a")):
            pattern = tree_of(pattern)
            template = tree_of(template)
            before = (plain(pattern), plain(template))
            first = refusal(check_rule, pattern, template)
            self.assertEqual((plain(pattern), plain(template)), before)
            self.assertIs(type(refusal(check_rule, pattern, template)), type(first))

    def test_sixty_rows_within_one_another(self):
        pattern = tree_of("(" * 60 + "a *" + ")" * 60)
        template = tree_of("(" * 60 + "a *" + ")" * 60)
        self.assertIsNone(check_rule(pattern, template))
        self.assertEqual(variables(pattern), {("a", 0): 1})
        self.assert_bad(0, check_rule, pattern, tree_of("(" * 60 + "a" + ")" * 60))


def slow_bad_template(tree, counts):
    """What [17] says of a template, with the counts taken along as they stand."""
    if isinstance(tree, Word):
        return counts.get((tree.name, tree.bits), 0) >= 1
    if isinstance(tree, Figure):
        return False
    parts = list(tree.parts)
    while parts:
        part = parts.pop(0)
        inner = counts
        if parts and seen(parts[0]) == "*" and counting_in(part, counts):
            parts.pop(0)
            inner = {key: max(count - 1, 0) for key, count in counts.items()}
        if slow_bad_template(part, inner):
            return True
    return False


def counting_in(tree, counts):
    if isinstance(tree, Row):
        return any(counting_in(part, counts) for part in tree.parts)
    return isinstance(tree, Word) and counts.get((tree.name, tree.bits), 0) >= 1


def drawn_tree(source, deep, leaves):
    if deep == 0 or source.random() < 0.4:
        return source.choice(leaves)
    parts = [drawn_tree(source, deep - 1, leaves) for _ in range(source.randrange(1, 4))]
    starred = [part + source.choice(["", " *", " *", " * *"]) for part in parts]
    return "(" + " ".join(starred) + ")"


class DrawnTest(Refused):
    def test_against_the_words_of_the_document(self):
        source = random.Random(17)
        pattern = tree_of("(a (b (c *)) *)")
        counts = {("a", 0): 0, ("b", 0): 1, ("c", 0): 2}
        told = {True: 0, False: 0}
        for _ in range(3000):
            template = tree_of(drawn_tree(source, 4, ["a", "b", "c", "d", "1", "b", "c"]))
            bad = slow_bad_template(template, counts)
            told[bad] += 1
            if bad:
                self.assert_bad(0, check_rule, pattern, template)
            else:
                self.assertIsNone(check_rule(pattern, template), seen(template))
        self.assertGreater(min(told.values()), 500)

    def test_all_short_patterns(self):
        """Rows of up to four of some parts, held against a count of the stars."""
        for length in range(5):
            for parts in itertools.product(("a", "b", "1", "*", "="), repeat=length):
                text = " ".join(parts)
                good = parts[:1] != ("*",) and text.count("*") < 2 and "=" not in parts
                good = good and text.count("a") < 2 and text.count("b") < 2
                pattern = tree_of("(" + text + ")")
                if good:
                    self.assertIsNone(check_rule(pattern, Figure(1, 0)), text)
                else:
                    self.assert_bad(0, check_rule, pattern, Figure(1, 0))


if __name__ == "__main__":
    unittest.main()
