import itertools
import re
import unittest

from macrohouse.errors import NoText
from macrohouse.reader import read, shown, shown_all, signs_of
from macrohouse.trees import Figure, Row, Word
from tests.plain import plain, refusal, shape

SIXTY = "1" + "0" * 59
SIXTY_ONE = "1" + "0" * 60

NO_SIGNS = (
    "-", "--", "-0", "00", "01", "007", "-01", "-00", "--1", "1-", "1-2", "+1", "1a", "1.5", "-a", "a-b",
    "A", "aB", "Abc", "a_b", "_", "a*", "*a", "**", "==", "*=", "=*", "=a", "a=", "*1", "1*", "=0",
    "\t", "a\tb", "\ta", "a\t", "1\t", "*\t", "'", "\"a\"", "a'", "[", "]", "{", "}", ";", "a;b", ",", "a,b",
    ".", "~", "!", "%", "/", "\\", "#", "$", "&", ":", "<", ">", "?", "@", "^", "`", "|",
    SIXTY_ONE, "-" + SIXTY_ONE, "0" * 60, "0" * 61, "-" + "0" * 60, "9" * 5000, "a" * 70 + "A",
)

BAD_BRACKETS = (
    "(", ")", "((", "))", ")(", "(()", "())", "(a", "a)", "(a b", "a b)", "a ) (", "() )", "( ()", "(a))(b",
    ")(a)", "(a) (", "(" * 60 + ")" * 59, "(" * 60 + ")" * 61,
)


def nested(depth, inside=""):
    return "(" * depth + inside + ")" * depth


def slow_signs(text):
    """Signs cut and told by other means; None where one is none."""
    signs = re.findall(r"[()]|[^() \n]+", text)
    good = re.compile(r"[()*=]|[a-z][a-z0-9]*|0|-?[1-9][0-9]{0,59}")
    if all(good.fullmatch(sign) for sign in signs):
        return signs
    return None


def slow_read(signs):
    """Trees read by inmost rows first; None where a bracket lacks its other one."""
    things = [sign if sign in "()" else leaf(sign, at) for at, sign in enumerate(signs)]
    places = list(range(len(signs)))
    while ")" in things:
        end = things.index(")")
        begins = [k for k in range(end) if things[k] == "("]
        if not begins:
            return None
        begin = begins[-1]
        row = Row(things[begin + 1:end], places[begin])
        things[begin:end + 1] = [row]
        places[begin:end + 1] = [places[begin]]
    return None if "(" in things else things


def leaf(sign, at):
    return Word(sign, at) if sign[0] in "abcdefghijklmnopqrstuvwxyz*=" else Figure(int(sign), at)


class Refused(unittest.TestCase):
    def assert_no_text(self, function, text):
        error = refusal(function, text)
        self.assertIs(type(error), NoText, (function.__name__, text))
        self.assertEqual((error.at, error.other), (None, None))


class SignsTest(Refused):
    def test_ordinary(self):
        self.assertEqual(signs_of("(def twice (fn (x) (add x -12)))"), [
            "(", "def", "twice", "(", "fn", "(", "x", ")", "(", "add", "x", "-12", ")", ")", ")",
        ])

    def test_the_empty_text_blanks_and_line_ends(self):
        for text in ("", " ", "   ", "\n", "\n\n", " \n \n"):
            self.assertEqual(signs_of(text), [])

    def test_blanks_and_line_ends_part_signs(self):
        for text in ("a b", " a b", "a b ", "a   b", "a\nb", "\na\nb\n", "a \n b", "  a\n\n  b  "):
            self.assertEqual(signs_of(text), ["a", "b"])

    def test_brackets_part_signs_with_nothing_between(self):
        self.assertEqual(signs_of("a(b)c"), ["a", "(", "b", ")", "c"])
        self.assertEqual(signs_of("1(2)3"), ["1", "(", "2", ")", "3"])
        self.assertEqual(signs_of("*(=)*"), ["*", "(", "=", ")", "*"])
        self.assertEqual(signs_of("(()())"), ["(", "(", ")", "(", ")", ")"])
        self.assertEqual(signs_of("a()1"), ["a", "(", ")", "1"])

    def test_words(self):
        every = "abcdefghijklmnopqrstuvwxyz0123456789"
        for word in ("a", "z", "az", "a0", "a9z", "x1y2", "zero0", "a00", "*", "=", every):
            self.assertEqual(signs_of(word), [word])
        self.assertEqual(signs_of("a" * 5000), ["a" * 5000])

    def test_star_and_equals_apart(self):
        self.assertEqual(signs_of("* ="), ["*", "="])
        self.assertEqual(signs_of("* *"), ["*", "*"])
        self.assertEqual(signs_of("(= a) *"), ["(", "=", "a", ")", "*"])

    def test_numbers(self):
        for number in ("0", "1", "9", "10", "100", "1234567890", "-1", "-10", "-9", SIXTY, "-" + SIXTY, "9" * 60):
            self.assertEqual(signs_of(number), [number])

    def test_brackets_are_not_held_against_each_other(self):
        for text in BAD_BRACKETS:
            self.assertEqual(signs_of(text), slow_signs(text))
        self.assertEqual(signs_of("(" * 100), ["("] * 100)

    def test_what_is_no_sign_is_refused(self):
        for sign in NO_SIGNS:
            for text in (sign, "a " + sign, sign + " a", "(" + sign + ")", "a\n" + sign + "\nb", "(a " + sign + "(b))"):
                self.assert_no_text(signs_of, text)

    def test_a_wrong_sign_is_refused_among_wrong_brackets_too(self):
        for text in (")A", "((-", "A(", "(" * 61 + "01"):
            self.assert_no_text(signs_of, text)
            self.assert_no_text(read, text)

    def test_every_letter_alone_and_behind_a_letter_a_figure_and_a_dash(self):
        for letter in [chr(number) for number in range(32, 127)] + ["\n", "\t"]:
            for text in (letter, "a" + letter, "1" + letter, "-" + letter, letter + "1", letter + "a"):
                self.assert_as_told(text)
                self.assert_as_told(text + "b")

    def test_all_short_texts(self):
        for length in range(5):
            for letters in itertools.product("a01-*=()\t\n ", repeat=length):
                self.assert_as_told("".join(letters))

    def assert_as_told(self, text):
        expected = slow_signs(text)
        if expected is None:
            self.assert_no_text(signs_of, text)
        else:
            self.assertEqual(signs_of(text), expected, repr(text))

    def test_the_list_is_the_askers_own(self):
        first = signs_of("(a)")
        first.append("b")
        first[0] = "c"
        self.assertEqual(signs_of("(a)"), ["(", "a", ")"])


class ReadTest(Refused):
    def test_ordinary(self):
        trees = read("(def f\n  (add x 12)) () -7 *")
        expected = [
            Row([Word("def", 1), Word("f", 2), Row([Word("add", 4), Word("x", 5), Figure(12, 6)], 3)], 0),
            Row([], 9),
            Figure(-7, 11),
            Word("*", 12),
        ]
        self.assertEqual([plain(tree) for tree in trees], [plain(tree) for tree in expected])

    def test_many_and_deep(self):
        tree = read("(a (b (c 1)) ())")[0]
        self.assertEqual((tree.many, tree.deep), (8, 3))
        self.assertEqual((tree.parts[1].many, tree.parts[1].deep), (5, 2))

    def test_nothing_to_read(self):
        for text in ("", " ", "\n", " \n \n "):
            self.assertEqual(read(text), [])

    def test_the_empty_row(self):
        for text in ("()", "( )", "(\n)", " ( ) "):
            self.assertEqual([plain(tree) for tree in read(text)], [("row", [], 0, 1, 1)])

    def test_signs_with_nothing_between_beside_a_bracket(self):
        trees = read("a(b)1()")
        expected = [Word("a", 0), Row([Word("b", 2)], 1), Figure(1, 4), Row([], 5)]
        self.assertEqual([plain(tree) for tree in trees], [plain(tree) for tree in expected])

    def test_numbers(self):
        for number in (0, 1, -1, 10, 10 ** 59, -(10 ** 59), 10 ** 60 - 1, 1 - 10 ** 60):
            tree = read(str(number))[0]
            self.assertEqual(plain(tree), ("figure", number, 0, 1, 0))
            self.assertIs(type(tree.number), int)

    def test_star_and_equals_are_words(self):
        self.assertEqual([plain(tree) for tree in read("* =")], [("word", "*", 0, 0, 1, 0), ("word", "=", 0, 1, 1, 0)])

    def test_the_words_sets_are_empty(self):
        row = read("(a (b))")[0]
        self.assertEqual([row.parts[0].bits, row.parts[1].parts[0].bits], [0, 0])

    def test_sixty_rows_within_one_another(self):
        tree = read(nested(60, "a"))[0]
        self.assertEqual((tree.many, tree.deep), (61, 60))
        self.assertEqual([one.deep for one in read(nested(60) + nested(60))], [60, 60])

    def test_more_rows_within_one_another_are_refused(self):
        for text in (nested(61), nested(61, "a"), "a " + nested(61), nested(61) + " a", nested(100)):
            self.assert_no_text(read, text)
        self.assert_no_text(read, "(" + nested(60) + " a)")
        self.assert_no_text(read, "(a " + nested(60) + ")")
        self.assert_no_text(read, nested(25000))

    def test_many_rows_beside_one_another_are_no_depth(self):
        self.assertEqual(len(read("()" * 500)), 500)
        tree = read("(" + "()" * 500 + ")")[0]
        self.assertEqual((tree.many, tree.deep), (501, 2))

    def test_brackets_that_lack_their_other_one_are_refused(self):
        for text in BAD_BRACKETS + ("(" * 50000, ")" * 50000):
            self.assert_no_text(read, text)

    def test_what_is_no_sign_is_refused(self):
        for sign in NO_SIGNS:
            for text in (sign, "a " + sign, sign + " a", "(" + sign + ")", "(a\n" + sign + "\nb)"):
                self.assert_no_text(read, text)

    def test_all_short_texts(self):
        for length in range(7):
            for letters in itertools.product("a7 ()", repeat=length):
                text = "".join(letters)
                expected = slow_read(slow_signs(text)) if slow_signs(text) is not None else None
                if expected is None:
                    self.assert_no_text(read, text)
                else:
                    self.assertEqual([plain(tree) for tree in read(text)], [plain(tree) for tree in expected])

    def test_a_long_text(self):
        text = "(a 1 (b))\n" * 5000
        trees = read(text)
        self.assertEqual(len(trees), 5000)
        self.assertEqual((trees[-1].at, trees[-1].parts[2].parts[0].at), (4999 * 7, 4999 * 7 + 4))

    def test_the_lists_are_the_askers_own(self):
        first = read("(a) b")
        first[0].parts.append(first[1])
        first.append(first[1])
        first[0] = None
        expected = [Row([Word("a", 1)], 0), Word("b", 3)]
        self.assertEqual([plain(tree) for tree in read("(a) b")], [plain(tree) for tree in expected])

    def test_a_refusal_changes_nothing_told_later(self):
        self.assert_no_text(read, "((a")
        self.assertEqual([plain(tree) for tree in read("b")], [("word", "b", 0, 0, 1, 0)])


class ShownTest(unittest.TestCase):
    def test_words_and_figures(self):
        for text in ("a", "abc1", "*", "=", "0", "-1", "12", SIXTY, "-" + SIXTY):
            self.assertEqual(shown(read(text)[0]), text)

    def test_rows(self):
        for text in ("()", "(a)", "(a b)", "(())", "(() ())", "((a) (b) c)", "(a (b (c -1)) * =)", "(1 () 2)"):
            self.assertEqual(shown(read(text)[0]), text)

    def test_blanks_as_told_whatever_the_text_had(self):
        self.assertEqual(shown(read(" ( a\n\n(b)(  c )1 ( ) ) ")[0]), "(a (b) (c) 1 ())")

    def test_no_trees(self):
        self.assertEqual(shown_all([]), "")

    def test_one_tree_and_several(self):
        self.assertEqual(shown_all(read("(a)")), "(a)")
        self.assertEqual(shown_all(read("a(b)()1()")), "a (b) () 1 ()")
        self.assertEqual(shown_all(read("((a))((b))")), "((a)) ((b))")

    def test_places_and_sets_are_not_shown(self):
        row = Row([Word("a", 99, 7), Figure(3, 5), Row([Word("b", 1, 1)], 42)], 17)
        self.assertEqual(shown(row), "(a 3 (b))")

    def test_sixty_rows_within_one_another_and_more(self):
        self.assertEqual(shown(read(nested(60, "a"))[0]), nested(60, "a"))
        self.assertEqual(shown(Row(read(nested(60)), 0)), nested(61))

    def test_what_is_shown_is_read_to_alike_trees(self):
        for length in range(7):
            for letters in itertools.product("a7 ()", repeat=length):
                text = "".join(letters)
                if refusal(read, text) is None:
                    self.assert_read_alike(text)

    def assert_read_alike(self, text):
        trees = read(text)
        again = read(shown_all(trees))
        self.assertEqual([shape(tree) for tree in again], [shape(tree) for tree in trees])
        self.assertEqual(signs_of(shown_all(trees)), signs_of(text))
        self.assertEqual(shown_all(trees), " ".join([shown(tree) for tree in trees]))

    def test_what_is_shown_stays_as_it_was(self):
        trees = read("(a (b 1) ()) c")
        before = [plain(tree) for tree in trees]
        shown(trees[0])
        shown_all(trees)
        self.assertEqual([plain(tree) for tree in trees], before)


if __name__ == "__main__":
    unittest.main()
