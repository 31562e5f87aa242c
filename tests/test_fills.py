import random
import unittest

from macrohouse.errors import NoFill
from macrohouse.fills import filled
from macrohouse.fits import fitted
from macrohouse.rules import check_rule
from macrohouse.trees import Figure, Row, Word
from tests.plain import plain, refusal, seen, things, tree_of, trees_of
from tests.second import slow_filled

MUCH = 1000000


def found_of(pattern, trees):
    found = fitted(tree_of(pattern), trees_of(trees), lambda fixed, word: True)
    assert found is not None, (pattern, trees)
    return found


class Fills(unittest.TestCase):
    def assert_filled(self, pattern, trees, template, expected, number=2):
        self.assertIsNone(check_rule(tree_of(pattern), tree_of(template)), template)
        made = filled(tree_of(template), found_of(pattern, trees), number, MUCH)
        self.assertEqual(seen(made), expected)

    def assert_no_fill(self, at, template, found, most=MUCH):
        error = refusal(filled, template, found, 0, most)
        self.assertIs(type(error), NoFill)
        self.assertEqual((error.at, error.other), (at, None))


class PlainTest(Fills):
    def test_a_word_gets_the_number(self):
        self.assert_filled("()", "", "a", "a:4")
        self.assert_filled("()", "", "a:3", "a:7")
        self.assert_filled("()", "", "a:4", "a:4")
        self.assert_filled("()", "", "*", "*:4")
        self.assert_filled("()", "", "=", "=:4")
        self.assert_filled("()", "", "a", "a:1", 0)
        self.assertEqual(filled(Word("a", 3, 1), {}, 19999, 1).bits, 2 ** 19999 + 1)

    def test_figures_stay(self):
        self.assert_filled("(a)", "1", "-7", "-7")
        made = filled(Figure(5, 9), {}, 0, 1)
        self.assertEqual(plain(made), plain(Figure(5, 9)))

    def test_a_variable_becomes_the_tree_as_it_is(self):
        for tree in ("x", "x:1", "7", "()", "(x:8 (a 1))", "*", "a"):
            self.assert_filled("(a)", tree, "a", tree)
        found = found_of("(a)", "(x (y:3))")
        self.assertIs(filled(tree_of("a"), found, 5, MUCH), found[("a", 0)])
        self.assertIs(filled(tree_of("(b a)"), found, 5, MUCH).parts[1], found[("a", 0)])

    def test_what_was_found_is_not_filled_again(self):
        self.assert_filled("(a b)", "b a", "(a b c)", "(b a c:4)")

    def test_alike_in_name_or_set_alone_is_no_variable(self):
        self.assert_filled("(a:1 b:2)", "1 2", "(a b a:1 b:2 a:2 b:1 c:1)", "(a:4 b:4 1 2 a:6 b:5 c:5)")

    def test_rows(self):
        self.assert_filled("(a b)", "1 (2)", "((a) () (b (a c)) b)", "((1) () ((2) (1 c:4)) (2))")
        self.assert_filled("()", "", "()", "()")

    def test_every_field_of_a_row(self):
        template = Row([Word("a", 51), Row([Word("b", 53)], 52)], 50)
        made = filled(template, {("a", 0): Row([Figure(7, 91)], 90)}, 0, MUCH)
        expected = Row([Row([Figure(7, 91)], 90), Row([Word("b", 53, 1)], 52)], 50)
        self.assertEqual(plain(made), plain(expected))

    def test_a_star_that_belongs_to_no_part(self):
        self.assert_filled("(a)", "1", "(a *)", "(1 *:4)")
        self.assert_filled("(a)", "1", "(* a)", "(*:4 1)")
        self.assert_filled("(a)", "1", "(b * * *)", "(b:4 *:4 *:4 *:4)")
        self.assert_filled("(a *)", "1 2", "((a *) (b *) *)", "((1 2) (b:4 *:4) *:4)")
        self.assert_filled("(a *)", "1 2", "(*)", "(*:4)")
        self.assert_filled("((a *) *)", "(1)", "(b *)", "(b:4 *:4)")


class RepeatedTest(Fills):
    def test_once_for_each_place(self):
        for trees in ("", "1", "1 2 3", "x (y) *"):
            self.assert_filled("(a *)", trees, "(a *)", f"({trees})")
        self.assert_filled("(a *)", "1 2", "(b a * c)", "(b:4 1 2 c:4)")
        self.assert_filled("(a *)", "1 2", "((b a) *)", "((b:4 1) (b:4 2))")
        self.assert_filled("(a *)", "1 2", "(a * a *)", "(1 2 1 2)")
        self.assert_filled("(a *)", "1 2", "((a a) *)", "((1 1) (2 2))")

    def test_a_star_behind_a_star_that_belongs_to_a_part(self):
        self.assert_filled("(a *)", "1 2", "(a * *)", "(1 2 *:4)")
        self.assert_filled("(a *)", "", "(a * * *)", "(*:4 *:4)")
        self.assert_filled("(a * )", "1", "((a *) *)", "((1 *:4))")
        self.assert_filled("((a *) *)", "(1 2) ()", "((a * *) * *)", "((1 2 *:4) (*:4) *:4)")

    def test_a_star_behind_a_star_that_is_a_word(self):
        self.assert_filled("(a *)", "1 2", "(* * a *)", "(*:4 *:4 1 2)")

    def test_variables_of_depth_nought_stay_in_it(self):
        self.assert_filled("(a b *)", "1 2 3", "((a b) *)", "((1 2) (1 3))")
        self.assert_filled("(a b *)", "1", "((a b) * a)", "(1)")

    def test_several_lists_at_once(self):
        self.assert_filled("((a *) (b *))", "(1 2) (3 4)", "((a b) *)", "((1 3) (2 4))")
        self.assert_filled("((a b) *)", "(1 2) (3 4)", "(a * b *)", "(1 3 2 4)")
        self.assert_filled("((a *) (b *))", "() ()", "((a b) *)", "()")

    def test_lists_of_lists(self):
        self.assert_filled("((a *) *)", "(1 2) () (3)", "((a *) *)", "((1 2) () (3))")
        self.assert_filled("((a b *) *)", "(1 2 3) (4)", "((a (b *)) *)", "((1 (2 3)) (4 ()))")
        self.assert_filled("((a *) *)", "(1 2) (3)", "(((c a) *) *)", "(((c:4 1) (c:4 2)) ((c:4 3)))")
        self.assert_filled("(((a *) *) *)", "((1) (2 3)) ()", "(((a *) *) *)", "(((1) (2 3)) ())")
        self.assert_filled("(((a *) *) *)", "", "(((a *) *) *)", "()")

    def test_a_list_and_a_list_of_lists_together(self):
        self.assert_filled("((a b *) *)", "(1 2 3) (4 5)", "(((a b) *) *)", "(((1 2) (1 3)) ((4 5)))")
        self.assert_filled("((a *) (b *) *)", "(1 2) (3) (4 5)", "(((a b *) *) *)",
                           "(((1 3 *:4)) ((2 4 *:4) (2 5 *:4)))")

    def test_a_variable_that_counts_no_more_leaves_the_star(self):
        # `a` and `b` both count at the outer part, and in it neither does any more.
        self.assert_filled("((a *) (b *))", "(1 2) (3 4)", "((a (b *)) *)", "((1 (3 *:4)) (2 (4 *:4)))")

    def test_found_rows_are_no_lists(self):
        self.assert_filled("(a)", "(1 2)", "(a *)", "((1 2) *:4)")
        self.assert_filled("(a *)", "(1 2) (3)", "(a *)", "((1 2) (3))")


class UnlikeTest(Fills):
    def test_lists_of_unlike_length(self):
        found = found_of("((a *) (b *))", "(1 2) (3)")
        for text in ("((a b) *)", "((b a) *)", "(((a) (b)) *)", "(c ((a b) *))", "((a (b *)) *)"):
            self.assert_no_fill(0, tree_of(text), found)

    def test_one_of_them_empty(self):
        for trees in ("(1) ()", "() (1)"):
            self.assert_no_fill(0, tree_of("((a b) *)"), found_of("((a *) (b *))", trees))

    def test_three_of_which_the_middle_one_is_unlike(self):
        found = found_of("((a *) (b *) (c *))", "(1 2) (3) (4 5)")
        self.assert_no_fill(0, tree_of("((a b c) *)"), found)
        self.assertEqual(seen(filled(tree_of("((a c) * b *)"), found, 0, MUCH)), "((1 4) (2 5) 3)")

    def test_within(self):
        uneven = found_of("(((a *) (b *)) *)", "((1 2) (3 4)) ((5) (6 7))")
        self.assert_no_fill(0, tree_of("(((a b) *) *)"), uneven)
        even = found_of("(((a *) (b *)) *)", "((1 2) (3 4)) ((5) (6))")
        self.assertEqual(seen(filled(tree_of("(((a b) *) *)"), even, 0, MUCH)), "(((1 3) (2 4)) ((5 6)))")

    def test_not_looked_at_in_a_part_repeated_for_no_place(self):
        found = found_of("((a *) (b *) ((c d) *))", "(1 2) (3) ()")
        template = tree_of("(((c d) *) 1)")
        self.assertEqual(seen(filled(template, found, 0, MUCH)), "(() 1)")
        nested = found_of("(((a *) (b *)) *)", "")
        self.assertEqual(seen(filled(tree_of("((((a b) *) x) *)"), nested, 0, MUCH)), "()")

    def test_refused_at_the_template(self):
        template = Row([Row([Word("a", 42), Word("b", 43)], 41), Word("*", 44)], 40)
        self.assert_no_fill(40, template, found_of("((a *) (b *))", "(1) ()"))
        self.assert_no_fill(60, Row([template], 60), found_of("((a *) (b *))", "(1) ()"))


class MostTest(Fills):
    def assert_most(self, pattern, trees, template):
        """Filled where `most` is met exactly, refused where it is passed by one."""
        found = found_of(pattern, trees)
        template = tree_of(template)
        made = filled(template, found, 0, MUCH)
        self.assertEqual(plain(filled(template, found, 0, made.many)), plain(made))
        self.assert_no_fill(template.at, template, found, made.many - 1)
        self.assert_no_fill(template.at, template, found, 0)

    def test_met_exactly_and_passed_by_one(self):
        for pattern, trees, template in (
            ("()", "", "a"), ("()", "", "7"), ("()", "", "()"), ("()", "", "(a 7 ())"), ("(a)", "(1 2 (3))", "a"),
            ("(a)", "(1 2 (3))", "(a a)"), ("(a *)", "1 (2) 3", "(a * b)"), ("(a *)", "1 (2) 3", "((b a) * *)"),
            ("((a *) *)", "(1 2) () (3)", "((a * c) *)"), ("(a *)", "", "(a *)"), ("(a b *)", "(1 1) 2 3", "((a b) *)"),
        ):
            self.assert_most(pattern, trees, template)

    def test_great_things_are_counted_not_made(self):
        great = tree_of("(" + "1 " * 20000 + ")")
        found = {("a", 0): great, ("b", 0): [Figure(number, 0) for number in range(20000)]}
        template = tree_of("((a b) *)")
        self.assert_no_fill(0, template, found, MUCH)
        few = {("a", 0): great, ("b", 0): [Figure(number, 0) for number in range(49)]}
        made = filled(template, few, 0, MUCH)
        self.assertEqual(made.many, 1 + 49 * 20003)

    def test_the_greatest_most_met_exactly(self):
        row = Row([Figure(1, 1)] * 999, 0)
        found = {("a", 0): row, ("b", 0): [row] * 998}
        template = tree_of("(b * a)")
        self.assertEqual(filled(template, found, 0, MUCH).many, 999001)
        exact = Row([Word("b", 1), Word("*", 2), Word("a", 3)] + [Figure(0, 4)] * 999, 0)
        self.assertEqual(filled(exact, found, 0, MUCH).many, MUCH)
        self.assert_no_fill(0, Row(exact.parts + [Figure(0, 5)], 0), found, MUCH)


class OwnTest(Fills):
    def test_what_is_handed_in_stays(self):
        template = tree_of("(a ((b c) *) * 7)")
        found = found_of("((a (b *)) *)", "(1 (2 3)) (4 ())")
        found[("a", 0)] = found[("a", 0)][0]
        before = (plain(template), things(found))
        for most in (MUCH, 3):
            refusal(filled, template, found, 3, most)
        self.assertEqual((plain(template), things(found)), before)

    def test_a_change_behind_it_changes_nothing_made(self):
        template = tree_of("(a * (a *))")
        found = found_of("(a *)", "1 2")
        made = filled(template, found, 0, MUCH)
        before = plain(made)
        found[("a", 0)].append(Figure(3, 0))
        found.clear()
        self.assertEqual(plain(made), before)

    def test_made_anew_each_time(self):
        template = tree_of("(a * (b))")
        found = found_of("(a *)", "1 2")
        one = filled(template, found, 0, MUCH)
        other = filled(template, found, 0, MUCH)
        self.assertEqual(plain(one), plain(other))
        self.assertIsNot(one.parts, other.parts)
        self.assertIsNot(one.parts[2].parts, template.parts[2].parts)

    def test_sixty_rows_within_one_another(self):
        text = "(" * 60 + "a *" + ")" * 60
        self.assert_filled("(a *)", "1 2", text, "(" * 60 + "1 2" + ")" * 60)


def drawn_template(source, deep):
    if deep == 0 or source.random() < 0.35:
        return source.choice("abcdew1")
    parts = [drawn_template(source, deep - 1) for _ in range(source.randrange(1, 4))]
    return "(" + " ".join(part + source.choice(["", " *", " *", " * *"]) for part in parts) + ")"


class DrawnTest(Fills):
    PATTERN = "(a (b (c *)) * (d *) ((e *) *))"
    DEPTHS = {("a", 0): 0, ("b", 0): 1, ("c", 0): 2, ("d", 0): 1, ("e", 0): 2}

    def drawn_trees(self, source):
        pairs = [f"({source.choice('xy')} ({'1 ' * source.randrange(3)}))" for _ in range(source.randrange(3))]
        rows = [f"({'3 ' * source.randrange(3)})" for _ in range(source.randrange(3))]
        return f"(a x) {' '.join(pairs)} ({'2 ' * source.randrange(3)}) ({' '.join(rows)})"

    def test_against_a_second_telling(self):
        source = random.Random(20)
        told = {True: 0, False: 0}
        for _ in range(6000):
            template = tree_of(drawn_template(source, 4))
            if refusal(check_rule, tree_of(self.PATTERN), template):
                continue
            found = found_of(self.PATTERN, self.drawn_trees(source))
            expected = slow_filled(template, self.DEPTHS, found, 3)
            told[expected is None] += 1
            if expected is None:
                self.assert_no_fill(template.at, template, found)
            else:
                self.assertEqual(plain(filled(template, found, 3, expected.many)), plain(expected))
                self.assert_no_fill(template.at, template, found, expected.many - 1)
        self.assertGreater(min(told.values()), 100)


if __name__ == "__main__":
    unittest.main()
