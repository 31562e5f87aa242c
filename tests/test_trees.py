import unittest

from macrohouse.trees import Figure, Row, Tree, Word, is_name, key_of
from tests.plain import plain


def sample():
    """( a ( * 7 b ) ( ) = -3 ) with some sets, numbered as read."""
    inner = Row([Word("*", 3), Figure(7, 4), Word("b", 5, 4)], 2)
    return Row([Word("a", 1, 1), inner, Row([], 7), Word("=", 9), Figure(-3, 10)], 0)


class FieldsTest(unittest.TestCase):
    def test_a_word(self):
        word = Word("abc", 4, 6)
        self.assertEqual(plain(word), ("word", "abc", 6, 4, 1, 0))

    def test_a_words_set_is_empty_where_none_is_told(self):
        self.assertEqual(Word("abc", 4).bits, 0)

    def test_a_word_by_names(self):
        word = Word(bits=3, at=2, name="x")
        self.assertEqual(plain(word), ("word", "x", 3, 2, 1, 0))

    def test_a_figure(self):
        self.assertEqual(plain(Figure(-12, 5)), ("figure", -12, 5, 1, 0))
        self.assertEqual(plain(Figure(at=0, number=0)), ("figure", 0, 0, 1, 0))

    def test_the_empty_row(self):
        self.assertEqual(plain(Row([], 3)), ("row", [], 3, 1, 1))

    def test_a_flat_row(self):
        row = Row([Word("a", 1), Figure(2, 2), Word("*", 3)], 0)
        self.assertEqual((row.at, row.many, row.deep), (0, 4, 1))

    def test_rows_within_rows(self):
        row = sample()
        self.assertEqual((row.at, row.many, row.deep), (0, 9, 2))
        self.assertEqual((row.parts[1].many, row.parts[1].deep), (4, 1))
        self.assertEqual(Row([row, Figure(1, 0)], 0).deep, 3)
        self.assertEqual(Row([Figure(1, 0), row], 0).many, 11)

    def test_the_deepest_part_counts_wherever_it_stands(self):
        deep = Row([Row([], 0)], 0)
        for parts in ([deep, Word("a", 0)], [Word("a", 0), deep], [Row([], 0), deep, Row([], 0)]):
            self.assertEqual(Row(parts, 0).deep, 3)

    def test_sixty_rows_within_one_another_and_more(self):
        tree = Row([], 59)
        for at in range(58, -1, -1):
            tree = Row([tree], at)
        self.assertEqual((tree.many, tree.deep), (60, 60))
        self.assertEqual((Row([tree], 0).many, Row([tree], 0).deep), (61, 61))

    def test_each_is_a_tree_and_none_is_another_kind(self):
        kinds = (Word, Figure, Row)
        for tree in (Word("a", 0), Figure(1, 0), Row([], 0)):
            self.assertIsInstance(tree, Tree)
            self.assertEqual(len([kind for kind in kinds if isinstance(tree, kind)]), 1)
        for kind in kinds:
            self.assertEqual(kind.__bases__, (Tree,))


class OwnListTest(unittest.TestCase):
    def test_a_row_leaves_the_list_handed_in_as_it_was(self):
        first = Word("a", 1)
        second = Figure(2, 2)
        parts = [first, second]
        Row(parts, 0)
        self.assertEqual(len(parts), 2)
        self.assertIs(parts[0], first)
        self.assertIs(parts[1], second)

    def test_a_row_keeps_a_list_of_its_own(self):
        parts = [Word("a", 1)]
        row = Row(parts, 0)
        parts.append(Word("b", 2))
        parts[0] = Figure(9, 9)
        self.assertEqual(plain(row), ("row", [("word", "a", 0, 1, 1, 0)], 0, 2, 1))

    def test_two_rows_of_one_list_know_nothing_of_each_other(self):
        parts = [Word("a", 1)]
        one = Row(parts, 0)
        other = Row(parts, 0)
        self.assertIsNot(one.parts, parts)
        self.assertIsNot(one.parts, other.parts)


class MarkedTest(unittest.TestCase):
    def test_a_word_gets_the_number(self):
        self.assertEqual(plain(Word("a", 3).marked(0)), ("word", "a", 1, 3, 1, 0))
        self.assertEqual(plain(Word("a", 3, 1).marked(4)), ("word", "a", 17, 3, 1, 0))

    def test_a_word_that_has_the_number_keeps_it(self):
        self.assertEqual(Word("a", 3, 5).marked(2).bits, 5)

    def test_a_great_number(self):
        self.assertEqual(Word("a", 3, 5).marked(19999).bits, 2 ** 19999 + 5)

    def test_words_that_are_no_names_get_it_too(self):
        self.assertEqual(Word("*", 0).marked(1).bits, 2)
        self.assertEqual(Word("=", 0, 1).marked(1).bits, 3)

    def test_a_figure_stays_alike(self):
        self.assertEqual(plain(Figure(-7, 2).marked(3)), ("figure", -7, 2, 1, 0))

    def test_every_word_of_a_row_gets_it_at_whatever_depth(self):
        marked = sample().marked(3)
        inner = Row([Word("*", 3, 8), Figure(7, 4), Word("b", 5, 12)], 2)
        expected = Row([Word("a", 1, 9), inner, Row([], 7), Word("=", 9, 8), Figure(-3, 10)], 0)
        self.assertEqual(plain(marked), plain(expected))

    def test_the_empty_row(self):
        self.assertEqual(plain(Row([], 6).marked(2)), plain(Row([], 6)))

    def test_what_was_marked_stays_as_it_was(self):
        tree = sample()
        before = plain(tree)
        tree.marked(3)
        self.assertEqual(plain(tree), before)
        word = Word("a", 0, 1)
        word.marked(5)
        self.assertEqual(word.bits, 1)

    def test_a_marked_row_has_lists_of_its_own(self):
        tree = sample()
        marked = tree.marked(3)
        self.assertIsNot(marked.parts, tree.parts)
        self.assertIsNot(marked.parts[1].parts, tree.parts[1].parts)
        self.assertIsNot(marked.parts[2].parts, tree.parts[2].parts)

    def test_marked_anew_each_time(self):
        tree = sample()
        one = tree.marked(3)
        other = tree.marked(3)
        self.assertIsNot(one.parts, other.parts)
        self.assertEqual(plain(one), plain(other))

    def test_sixty_rows_within_one_another(self):
        tree = Word("a", 60)
        for at in range(59, -1, -1):
            tree = Row([tree], at)
        marked = tree.marked(2)
        self.assertEqual((marked.many, marked.deep), (61, 60))
        while isinstance(marked, Row):
            marked = marked.parts[0]
        self.assertEqual(key_of(marked), ("a", 4))


class IsNameTest(unittest.TestCase):
    def test_names(self):
        for name in ("a", "z", "abc", "a1", "x0y9", "fn", "mac", "part"):
            self.assertIs(is_name(Word(name, 0)), True)
            self.assertIs(is_name(Word(name, 5, 3)), True)

    def test_words_that_are_no_names(self):
        for name in ("*", "="):
            self.assertIs(is_name(Word(name, 0)), False)
            self.assertIs(is_name(Word(name, 5, 3)), False)

    def test_figures_and_rows_are_no_names(self):
        for tree in (Figure(0, 0), Figure(7, 0), Row([], 0), Row([Word("a", 1)], 0)):
            self.assertIs(is_name(tree), False)


class KeyOfTest(unittest.TestCase):
    def test_name_and_set(self):
        self.assertEqual(key_of(Word("a", 7)), ("a", 0))
        self.assertEqual(key_of(Word("abc", 7, 5)), ("abc", 5))
        self.assertEqual(key_of(Word("*", 7, 2)), ("*", 2))
        self.assertIs(type(key_of(Word("a", 7))), tuple)

    def test_the_place_is_no_part_of_it(self):
        self.assertEqual(key_of(Word("a", 1, 4)), key_of(Word("a", 2, 4)))

    def test_another_set_or_name_is_another_key(self):
        self.assertNotEqual(key_of(Word("a", 1, 4)), key_of(Word("a", 1, 5)))
        self.assertNotEqual(key_of(Word("a", 1, 4)), key_of(Word("b", 1, 4)))

    def test_a_marked_word_has_the_key_with_the_number(self):
        self.assertEqual(key_of(Word("a", 1, 4).marked(0)), ("a", 5))


if __name__ == "__main__":
    unittest.main()
