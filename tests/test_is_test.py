import copy
import unittest

from dealtables.schemas import is_test
from tests.examples import DEEP, ODD_THINGS, deep_test, nested, other_kinds, with_one_leaf, with_one_listed

TABLE = (
    "mix",
    (("a", "whole", False), ("b", "whole", True), ("t", "text", True), ("u", "text", False)),
    ("a",),
    (),
)
LEAF = ("empty", "b")


class TestCase(unittest.TestCase):
    def yes(self, *things):
        for thing in things:
            self.assertIs(is_test(TABLE, thing), True, thing)

    def no(self, *things):
        for thing in things:
            self.assertIs(is_test(TABLE, thing), False, thing)


class PlainTests(TestCase):
    """0.7, 0.4: is, below, empty."""

    def test_is(self):
        self.yes(("is", "a", 0), ("is", "b", 12), ("is", "t", "x1"), ("is", "u", "0"))

    def test_is_at_the_edges_of_worths(self):
        self.yes(("is", "a", -999), ("is", "a", 999), ("is", "t", ""), ("is", "t", "abcxyz"), ("is", "t", "012789"))
        self.no(("is", "a", -1000), ("is", "a", 1000), ("is", "t", "abcdefg"), ("is", "a", 10 ** 30))

    def test_is_without_a_gap(self):
        self.no(("is", "a", None), ("is", "b", None), ("is", "t", None), ("is", "u", None))

    def test_is_of_the_kind_of_its_column(self):
        self.no(("is", "a", "1"), ("is", "b", ""), ("is", "t", 1), ("is", "u", 0))

    def test_a_truth_is_no_worth(self):
        self.no(("is", "a", True), ("is", "a", False), ("is", "b", True), ("is", "t", True), ("is", "t", False))

    def test_signs_of_texts(self):
        self.no(("is", "t", "A"), ("is", "t", "a b"), ("is", "t", " "), ("is", "t", "-1"), ("is", "t", "'a"),
                ("is", "t", "?"), ("is", "t", "~"), ("is", "t", "a_"), ("is", "t", "a\n"), ("is", "t", "."))
        self.no(("is", "t", "\u00e9"), ("is", "t", "\u00b2"), ("is", "t", "\u0663"))

    def test_below(self):
        self.yes(("below", "a", "b"), ("below", "b", "a"), ("below", "t", "u"), ("below", "u", "t"))

    def test_below_may_name_a_column_twice(self):
        self.yes(("below", "a", "a"), ("below", "t", "t"))

    def test_below_of_two_kinds(self):
        self.no(("below", "a", "t"), ("below", "u", "b"))

    def test_below_takes_columns_alone(self):
        self.no(("below", "a", 1), ("below", "t", "x"), ("below", 1, "a"), ("below", "x", "a"), ("below", "a", None))

    def test_empty(self):
        self.yes(("empty", "a"), ("empty", "b"), ("empty", "t"), ("empty", "u"))

    def test_columns_that_are_not_there(self):
        self.no(("is", "x", 1), ("is", "", 1), ("is", "mix", 1), ("empty", "x"), ("empty", "A"), ("empty", None),
                ("empty", 0), ("empty", True), ("empty", ("a",)), ("empty", ("a", "whole", False)), ("empty", ["a"]))

    def test_parts_missing_or_too_many(self):
        self.no((), ("is",), ("is", "a"), ("is", "a", 1, 1), ("below",), ("below", "a"), ("below", "a", "b", "b"),
                ("empty",), ("empty", "b", "b"), ("empty", "b", None), ("is", "t", "x", ()))

    def test_other_words(self):
        self.no(("isnt", "a", 1), ("IS", "a", 1), ("above", "a", "b"), ("", "a"), (None, "a"), (1, "a", 1),
                ("a", "is", 1), ("check", LEAF), ("xor", LEAF, LEAF), (("is",), "a", 1), ("is ", "a", 1))


class TestsOfTests(TestCase):
    """0.7: not, and, or, and how deep they go."""

    def test_not_and_or(self):
        self.yes(("not", LEAF), ("and", LEAF, ("is", "a", 1)), ("or", ("below", "a", "b"), LEAF))

    def test_parts_missing_or_too_many(self):
        self.no(("not",), ("not", LEAF, LEAF), ("and",), ("and", LEAF), ("and", LEAF, LEAF, LEAF),
                ("or",), ("or", LEAF), ("or", LEAF, LEAF, LEAF), ("not", ()), ("and", LEAF, ()), ("or", (), LEAF))

    def test_all_parts_are_tests(self):
        bad = ("is", "a", "1")
        self.no(("not", bad), ("and", bad, LEAF), ("and", LEAF, bad), ("or", bad, LEAF), ("or", LEAF, bad))
        self.no(("not", "a"), ("and", LEAF, None), ("or", True, LEAF), ("not", 1), ("not", (LEAF,)))

    def test_four_within_one_another(self):
        for how_deep in range(4):
            self.yes(deep_test(LEAF, how_deep))
        for how_deep in range(4, DEEP + 1):
            self.no(deep_test(LEAF, how_deep))

    def test_four_within_one_another_on_either_side(self):
        three = deep_test(LEAF, 2)
        four = deep_test(LEAF, 3)
        for word in ("and", "or"):
            self.yes((word, three, LEAF), (word, LEAF, three), (word, three, three))
            self.no((word, four, LEAF), (word, LEAF, four), (word, four, four))
            self.yes(("not", (word, ("and", LEAF, LEAF), ("or", LEAF, LEAF))))
            self.no(("not", (word, ("and", LEAF, LEAF), ("or", LEAF, ("not", LEAF)))))
            self.no(("not", (word, ("and", ("not", LEAF), LEAF), LEAF)))

    def test_full_width_and_depth(self):
        test = LEAF
        for k in range(3):
            test = ("and", test, test) if k % 2 else ("or", test, test)
        self.yes(test)
        self.no(("and", test, test))


class AnyThing(TestCase):
    """1.1, 0.3: any thing is answered, none is changed."""

    def test_odd_things(self):
        self.no(*[thing for thing in ODD_THINGS])

    def test_lists_may_stand_nowhere(self):
        tests = (("is", "a", 1), ("below", "a", "b"), LEAF, ("not", LEAF),
                 ("or", ("and", LEAF, ("not", LEAF)), ("is", "t", "")))
        for test in tests:
            self.yes(test)
            self.no(*with_one_listed(test))

    def test_other_kinds_in_each_place(self):
        for test in (("is", "a", 1), ("is", "t", "b"), ("below", "a", "b"), ("or", LEAF, ("not", ("is", "b", 0)))):
            self.no(*with_one_leaf(test, other_kinds))

    def test_deep_nestings_within(self):
        for deep in (nested(tuple, 1), nested(list, 1), nested(tuple, "a"), nested(tuple, LEAF)):
            self.no(("is", "a", deep), ("is", deep, 1), ("empty", deep), ("below", deep, deep), (deep, "a", 1),
                    ("not", deep), ("and", LEAF, deep), ("or", deep, LEAF))

    def test_things_are_not_changed_and_answers_stay(self):
        for thing in ODD_THINGS + (LEAF, ["not", [LEAF]]):
            before = copy.deepcopy(thing)
            answers = [is_test(TABLE, thing) for k in range(3)]
            self.assertEqual(thing, before)
            self.assertEqual(len(set(answers)), 1)

    def test_names_need_not_be_short_where_the_table_has_them(self):
        table = ("longname", (("column" * 3, "whole", False),), ("column" * 3,), ())
        self.assertIs(is_test(table, ("is", "column" * 3, 1)), True)
        self.assertIs(is_test(table, ("is", "column", 1)), False)


if __name__ == "__main__":
    unittest.main()
