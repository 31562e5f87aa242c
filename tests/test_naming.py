"""Names by which places are written."""

import unittest

from macrohouse.house import made
from macrohouse.naming import names_of
from tests.drawing import drawn_items
from tests.making import call, fn, free, num, seen_at
from tests.second_names import scopes_of, slow_names


def define(place, name, core=("num", 1)):
    return ("def", place, name, core)


def show(core):
    return ("show", core)


def house_names(text):
    return names_of(made(text).lines)


class TopTest(unittest.TestCase):
    def test_of_no_items(self):
        self.assertEqual(names_of([]), {})
        self.assertEqual(names_of([show(num(1)), show(free("x"))]), {})

    def test_each_by_its_own_name(self):
        self.assertEqual(names_of([define(4, "x"), show(seen_at(4)), define(0, "y")]), {4: "x", 0: "y"})

    def test_two_top_places_of_one_name(self):
        self.assertEqual(names_of([define(7, "x"), define(3, "x"), define(5, "x")]), {7: "x", 3: "x2", 5: "x3"})
        self.assertEqual(house_names("(part a (def x 1)) (part b (def x 2) (show x))"), {0: "x", 1: "x2"})

    def test_in_the_order_of_the_items_and_not_of_the_places(self):
        self.assertEqual(names_of([define(9, "x"), define(1, "x")]), {9: "x", 1: "x2"})

    def test_with_two_behind_it_taken_too(self):
        self.assertEqual(names_of([define(0, "x"), define(1, "x2"), define(2, "x")]), {0: "x", 1: "x2", 2: "x3"})
        self.assertEqual(names_of([define(0, "x"), define(1, "x"), define(2, "x2")]), {0: "x", 1: "x2", 2: "x22"})
        self.assertEqual(names_of([define(0, "x"), show(call(free("x"), free("x2"), free("x3")))]), {0: "x4"})
        self.assertEqual(names_of([define(0, "x"), show(call(free("x"), free("x3")))]), {0: "x2"})

    def test_names_that_end_with_figures(self):
        self.assertEqual(names_of([define(0, "y9"), define(1, "y9"), define(2, "y92")]), {0: "y9", 1: "y92", 2: "y922"})
        self.assertEqual(names_of([define(0, "x1"), define(1, "x1"), define(2, "x")]), {0: "x1", 1: "x12", 2: "x"})

    def test_ten_and_more(self):
        names = names_of([define(place, "x") for place in range(12)])
        self.assertEqual([names[place] for place in (0, 1, 8, 9, 10, 11)], ["x", "x2", "x9", "x10", "x11", "x12"])

    def test_a_free_name_anywhere(self):
        for items in (
            [define(0, "x"), show(free("x"))], [show(call(num(1), fn("1y", free("x")))), define(0, "x")],
            [define(0, "x", free("x"))], [define(2, "z", ("now", free("x"))), define(0, "x")],
        ):
            self.assertEqual(names_of(items)[0], "x2")

    def test_a_name_that_only_ps_have_is_no_harm(self):
        self.assertEqual(names_of([define(0, "x"), show(fn("1x", seen_at(1)))]), {0: "x", 1: "x"})

    def test_core_words_where_there_is_such_a_core(self):
        picked = ("pick", num(1), num(1), num(1))
        for name, core in (("fn", fn("", num(1))), ("pick", picked), ("now", ("now", num(1)))):
            self.assertEqual(names_of([define(0, name), show(num(1))]), {0: name})
            self.assertEqual(names_of([define(0, name), show(core)]), {0: f"{name}2"})
            self.assertEqual(names_of([show(call(free("f"), core)), define(0, name)]), {0: f"{name}2"})
            self.assertEqual(names_of([define(0, name, core)]), {0: f"{name}2"})
        self.assertEqual(names_of([define(0, "fn"), show(("now", num(1)))]), {0: "fn"})
        self.assertEqual(names_of([define(0, "call"), show(call(num(1)))]), {0: "call"})

    def test_other_words_of_the_document_are_names_like_others(self):
        names = ["mac", "part", "def", "show", "use", "tell", "main", "num", "free", "seen"]
        items = [define(place, name, seen_at(0)) for place, name in enumerate(names)] + [show(call(free("q"), num(1)))]
        self.assertEqual(list(names_of(items).values()), names)


class ParamTest(unittest.TestCase):
    def assert_names(self, core, names):
        self.assertEqual(names_of([show(core)]), names)

    def test_by_their_own_names(self):
        self.assert_names(fn("5x 3y", call(seen_at(3), seen_at(5))), {5: "x", 3: "y"})

    def test_ps_of_one_fn_of_one_name(self):
        self.assert_names(fn("1x 0x 2x", num(1)), {1: "x", 0: "x2", 2: "x3"})
        self.assert_names(fn("1x 2x2 3x 4x2", num(1)), {1: "x", 2: "x2", 3: "x3", 4: "x22"})
        self.assert_names(fn("1x 2x 3x2", num(1)), {1: "x", 2: "x2", 3: "x22"})

    def test_a_free_name_in_the_scope_and_one_outside_of_it(self):
        self.assert_names(fn("1x", free("x")), {1: "x2"})
        self.assert_names(fn("1x", fn("2y", call(num(1), free("x")))), {1: "x2", 2: "y"})
        self.assert_names(call(free("x"), fn("1x", seen_at(1)), free("x")), {1: "x"})
        self.assert_names(fn("2y", call(free("x"), fn("1x", seen_at(1)))), {2: "y", 1: "x"})

    def test_core_words(self):
        self.assert_names(fn("1fn", seen_at(1)), {1: "fn"})
        self.assert_names(fn("1fn", fn("2fn", num(1))), {1: "fn2", 2: "fn"})
        self.assert_names(fn("1pick 2now", ("pick", num(1), num(2), seen_at(1))), {1: "pick2", 2: "now"})
        self.assert_names(fn("1now", call(num(1), ("now", num(2)))), {1: "now2"})
        self.assert_names(("now", fn("1now", seen_at(1))), {1: "now"})
        self.assert_names(fn("1mac", seen_at(1)), {1: "mac"})

    def test_a_place_told_outside_that_is_written_so(self):
        self.assert_names(fn("1x", fn("2x", seen_at(1))), {1: "x", 2: "x2"})
        self.assert_names(fn("1x", fn("2x", call(seen_at(1), seen_at(2)))), {1: "x", 2: "x2"})
        self.assert_names(fn("1x", fn("2x", fn("3x", call(seen_at(1), seen_at(2))))), {1: "x", 2: "x2", 3: "x3"})
        self.assert_names(fn("1x", fn("2x", fn("3x", seen_at(1)))), {1: "x", 2: "x2", 3: "x2"})
        self.assert_names(fn("1x", fn("2x", fn("3x", seen_at(2)))), {1: "x", 2: "x", 3: "x2"})

    def test_one_that_no_word_in_the_scope_means(self):
        self.assert_names(fn("1x", fn("2x", seen_at(2))), {1: "x", 2: "x"})
        self.assert_names(fn("1x", call(seen_at(1), fn("2x", num(1)), seen_at(1))), {1: "x", 2: "x"})

    def test_a_place_told_inside_is_no_harm(self):
        self.assert_names(fn("1x", call(fn("2x", seen_at(2)), num(1))), {1: "x", 2: "x"})

    def test_how_a_place_outside_is_written_counts_and_not_its_own_name(self):
        core = fn("1x", call(free("x"), fn("2x", seen_at(1)), fn("3x2", seen_at(1))))
        self.assert_names(core, {1: "x2", 2: "x", 3: "x22"})

    def test_top_places(self):
        self.assertEqual(names_of([define(0, "x"), show(fn("1x", seen_at(0)))]), {0: "x", 1: "x2"})
        self.assertEqual(names_of([define(0, "x"), show(fn("1x", seen_at(1))), show(seen_at(0))]), {0: "x", 1: "x"})
        self.assertEqual(names_of([show(fn("1x", seen_at(0))), define(0, "x")]), {1: "x2", 0: "x"})
        items = [define(2, "x"), define(0, "x"), show(fn("1x", seen_at(0)))]
        self.assertEqual(names_of(items), {2: "x", 0: "x2", 1: "x"})

    def test_a_p_named_as_a_top_place_came_to_be_written(self):
        items = [define(0, "x"), define(1, "x"), show(fn("2x2", seen_at(1))), show(fn("3x2", seen_at(0)))]
        self.assertEqual(names_of(items), {0: "x", 1: "x2", 2: "x22", 3: "x2"})

    def test_many_of_one_name(self):
        names = names_of([show(("fn", tuple((place, "x") for place in range(5000)), num(1)))])
        self.assertEqual((names[0], names[1], names[4999]), ("x", "x2", "x5000"))

    def test_of_a_house(self):
        text = "(part a (mac m (((a) (fn (t) (t a))))) (def t (m 1)) (show (fn (t) (m t))) (show (m (fn (t) (m t)))))"
        self.assertEqual(house_names(text), {0: "t", 1: "t", 2: "t", 3: "t2", 4: "t", 5: "t", 6: "t2"})


class HandedInTest(unittest.TestCase):
    def test_what_is_handed_in_stays_as_it_was(self):
        items = [define(0, "x", fn("1x", seen_at(0))), show(seen_at(0))]
        before = list(items)
        names = names_of(items)
        self.assertEqual(items, before)
        names.clear()
        self.assertEqual(names_of(items), {0: "x", 1: "x2"})


class DrawnTest(unittest.TestCase):
    def test_a_second_telling(self):
        others = 0
        for _, items in drawn_items(11, 3000):
            names = names_of(items)
            self.assertEqual(names, slow_names(items), items)
            others += len([place for place, name, *_ in scopes_of(items) if names[place] != name])
        self.assertGreater(others, 1000)


if __name__ == "__main__":
    unittest.main()
