import copy
import unittest

from dealtables.doing import is_deed
from tests.examples import ODD_THINGS, SCHEMA, nested, other_kinds, with_one_leaf, with_one_listed
from tests.making import made_cases

ONE = ("one", (("a", "whole", False), ("b", "whole", True), ("s", "text", True), ("u", "text", False)), ("a",), ())
TWO = ("two", (("n", "whole", False), ("v", "whole", True), ("w", "text", False)), ("w", "n"), ())
FIVE = ("five", (("k", "text", False),) + tuple([(name, "whole", True) for name in "pqrs"]), ("k",), ())
TABLES = (ONE, TWO, FIVE)

ADD = ("add", "one", (1, 2, "x", "y"))
DROP = ("drop", "two", ("x", 1))
SET = ("set", "one", (1,), (("b", 5), ("s", "x"), ("u", "")))


class DeedCase(unittest.TestCase):
    def yes(self, *deeds):
        for deed in deeds:
            self.assertIs(is_deed(TABLES, deed), True, deed)

    def no(self, *things):
        for thing in things:
            self.assertIs(is_deed(TABLES, thing), False, thing)


class Adds(DeedCase):
    """4.1: add."""

    def test_right_ones(self):
        self.yes(ADD, ("add", "one", (-999, 999, "", "abc999")), ("add", "one", (0, None, None, "")),
                 ("add", "two", (1, None, "x")), ("add", "five", ("", 1, None, 3, None)))

    def test_rows_of_other_tables(self):
        self.no(("add", "two", ADD[2]), ("add", "one", (1, None, "x")), ("add", "five", ADD[2]))

    def test_rows_that_are_none(self):
        self.no(("add", "one", (1, 2, "x")), ("add", "one", (1, 2, "x", "y", "z")), ("add", "one", ()),
                ("add", "one", (1,)), ("add", "one", ((1, 2, "x", "y"),)), ("add", "one", None), ("add", "one", "x"))

    def test_worths_that_can_not_stand(self):
        self.no(("add", "one", (None, 2, "x", "y")), ("add", "one", (1, 2, "x", None)),
                ("add", "one", (1000, 2, "x", "y")),
                ("add", "one", (1, -1000, "x", "y")), ("add", "one", (1, 2, "abcdefg", "y")),
                ("add", "one", (1, 2, "X", "y")),
                ("add", "one", ("1", 2, "x", "y")), ("add", "one", (1, 2, 3, "y")))

    def test_truths(self):
        self.no(("add", "one", (True, 2, "x", "y")), ("add", "one", (1, False, "x", "y")),
                ("add", "one", (1, 2, True, "y")))

    def test_parts(self):
        self.no(("add",), ("add", "one"), ADD + ((),), ADD + (ADD[2],), ("add", ADD[2]), ("add", ADD[2], "one"),
                ("add", "one", (1,), (("b", 5),)), ("add", "one", (1,), ADD[2]))


class Drops(DeedCase):
    """4.1: drop."""

    def test_right_ones(self):
        self.yes(DROP, ("drop", "one", (0,)), ("drop", "one", (-999,)), ("drop", "one", (999,)),
                 ("drop", "two", ("", -1)),
                 ("drop", "five", ("abc999",)), ("drop", "five", ("",)))

    def test_keys_of_wrong_length(self):
        self.no(("drop", "one", ()), ("drop", "one", (1, 1)), ("drop", "two", ()), ("drop", "two", ("x",)),
                ("drop", "two", (1,)), ("drop", "two", ("x", 1, 1)), ("drop", "five", ("", "")))

    def test_keys_of_wrong_kinds(self):
        self.no(("drop", "one", ("1",)), ("drop", "two", (1, "x")), ("drop", "two", ("x", "1")),
                ("drop", "two", (1, 1)),
                ("drop", "five", (1,)), ("drop", "one", ((1,),)), ("drop", "one", 1), ("drop", "five", "a"),
                ("drop", "one", None), ("drop", "one", "a"))

    def test_keys_in_the_turn_of_the_columns(self):
        self.no(("drop", "two", (1, "x")))

    def test_keys_with_gaps(self):
        self.no(("drop", "one", (None,)), ("drop", "two", (None, 1)), ("drop", "two", ("x", None)),
                ("drop", "five", (None,)))

    def test_keys_out_of_bounds(self):
        self.no(("drop", "one", (1000,)), ("drop", "one", (-1000,)), ("drop", "five", ("abcdefg",)),
                ("drop", "five", ("A",)),
                ("drop", "two", ("x y", 1)))

    def test_truths(self):
        self.no(("drop", "one", (True,)), ("drop", "one", (False,)), ("drop", "two", ("x", True)),
                ("drop", "one", True))

    def test_parts(self):
        self.no(("drop",), ("drop", "one"), DROP + ((),), DROP + (None,), ("drop", "one", (1,), (("b", 5),)),
                ("drop", (1,), "one"), ("drop", (1,)))


class Sets(DeedCase):
    """4.1: set."""

    def pairs(self, *pairs):
        return ("set", "one", (1,), pairs)

    def test_right_ones(self):
        self.yes(SET, self.pairs(("b", -999)), self.pairs(("b", 999)), self.pairs(("s", "abc999"), ("b", 0)),
                 self.pairs(("u", ""), ("s", ""), ("b", 1)), ("set", "two", ("x", 1), (("v", 3),)))

    def test_gaps_where_they_may_stand(self):
        self.yes(self.pairs(("b", None)), self.pairs(("s", None), ("b", None)), ("set", "two", ("", 0), (("v", None),)))
        self.no(self.pairs(("u", None)), self.pairs(("b", None), ("u", None)))

    def test_one_to_three_pairs(self):
        pairs = tuple([(name, 1) for name in "pqrs"])
        self.no(self.pairs(), ("set", "five", ("",), ()))
        for many in (1, 2, 3):
            self.yes(("set", "five", ("",), pairs[:many]))
        self.no(("set", "five", ("",), pairs))

    def test_a_column_twice(self):
        self.no(self.pairs(("b", 1), ("b", 1)), self.pairs(("b", 1), ("b", 2)),
                self.pairs(("b", 1), ("s", ""), ("b", None)))

    def test_columns_of_the_key(self):
        self.no(self.pairs(("a", 1)), self.pairs(("a", 2)), self.pairs(("b", 1), ("a", 2)),
                ("set", "two", ("x", 1), (("n", 1),)), ("set", "two", ("x", 1), (("w", "x"),)),
                ("set", "two", ("x", 1), (("v", 1), ("w", "x"))))

    def test_columns_that_are_not_there(self):
        self.no(self.pairs(("x", 1)), self.pairs(("", 1)), self.pairs(("b", 1), ("v", 1)), self.pairs(("one", 1)),
                self.pairs(("B", 1)), self.pairs((None, 1)), self.pairs((0, 1)), self.pairs((True, 1)),
                self.pairs((("b",), 1)), self.pairs((["b"], 1)), self.pairs((("b", "whole", True), 1)))

    def test_worths_that_can_not_stand(self):
        self.no(self.pairs(("b", 1000)), self.pairs(("b", -1000)), self.pairs(("b", "1")), self.pairs(("s", 1)),
                self.pairs(("s", "abcdefg")), self.pairs(("s", "A")), self.pairs(("b", True)), self.pairs(("b", False)),
                self.pairs(("s", True)), self.pairs(("b", (1,))), self.pairs(("b", [1])), self.pairs(("b", ())))

    def test_each_pair_counts(self):
        for bad in (("b", 1000), ("a", 1), ("x", 1), ("b",), ()):
            self.no(self.pairs(bad, ("s", "x")), self.pairs(("s", "x"), bad), self.pairs(("s", "x"), ("u", "x"), bad))

    def test_keys(self):
        for key in ((), (1, 1), ("1",), (None,), (True,), (1000,), 1, "1", None, ((1,),), [1]):
            self.no(("set", "one", key, (("b", 1),)))
        for key in (("x",), (1, "x"), ("x", None), ("x", True), ("x", 1, 1)):
            self.no(("set", "two", key, (("v", 1),)))

    def test_parts(self):
        self.no(("set",), ("set", "one"), ("set", "one", (1,)), SET + ((),), SET + (("b", 1),),
                ("set", "one", (("b", 5),)),
                ("set", (1,), (("b", 5),)), ("set", "one", (("b", 5),), (1,)), ("set", "one", (1,), ("b", 5)),
                ("set", "one", (1,), ("b",)), ("set", "one", (1,), "b"), ("set", "one", (1,), None),
                ("set", "one", (1,), (("b", 5, 5),)), ("set", "one", (1,), (("b",),)),
                ("set", "one", (1,), ((5, "b"),)),
                ("set", "one", (1,), ("bb", "cc")), ("set", "one", (1,), ((("b", 5),),)))


class AnyThing(DeedCase):
    """4.1, 0.3: any thing is answered, none is changed."""

    def test_other_words(self):
        for deed in (ADD, DROP, SET):
            for word in ("", "Add", "put", "adds", "mark", "back", "add ", None, True, 0, ("add",), ["add"], (), "one"):
                self.no((word,) + deed[1:])
        self.no(("drop",) + ADD[1:], ("set",) + ADD[1:], ("add",) + DROP[1:], ("set",) + DROP[1:], ("add",) + SET[1:],
                ("drop",) + SET[1:])

    def test_marks_and_returns_are_no_deeds(self):
        self.no(("mark", "one"), ("back", "one"), ("mark", "one", (1,)), ("back", "one", (1,)))

    def test_names_that_are_no_tables(self):
        for deed in (ADD, DROP, SET):
            for name in ("three", "", "ONE", "on", "ones", "a", None, 0, True, ("one",), ["one"], ONE, (), []):
                self.no((deed[0], name) + deed[2:])

    def test_lists_may_stand_nowhere(self):
        for deed, many in ((ADD, 2), (DROP, 2), (SET, 6)):
            spoilt = with_one_listed(deed)
            self.assertEqual(len(spoilt), many)
            self.no(*spoilt)

    def test_other_kinds_in_each_place(self):
        for deed in (ADD, DROP, SET, ("add", "one", (0, 1, "", "")), ("drop", "one", (1,)),
                     ("set", "one", (0,), (("b", 1),))):
            self.yes(deed)
            self.no(*with_one_leaf(deed, other_kinds))

    def test_odd_things(self):
        self.no(*ODD_THINGS)
        for odd in ODD_THINGS:
            self.no((odd,) + ADD[1:], ("add", odd, ADD[2]), ("add", "one", odd), ("drop", "two", odd), ADD + (odd,),
                    ("set", odd, (1,), SET[3]), ("set", "one", odd, SET[3]), ("set", "one", (1,), odd), SET + (odd,),
                    ("set", "one", (1,), (odd,)), ("set", "one", (1,), (("b", 1), odd)), ("drop", "two", (odd, odd)))

    def test_odd_things_among_worths(self):
        for odd in [odd for odd in ODD_THINGS if isinstance(odd, (bool, tuple, list))]:
            self.no(("drop", "one", (odd,)), ("set", "one", (odd,), SET[3]), ("add", "one", (odd, 2, "x", "y")))
            self.no(("set", "one", (1,), (("u", odd),)), ("set", "one", (1,), ((odd, 1),)), ("add", "two", (1, 2, odd)))

    def test_deep_nestings(self):
        for deep in (nested(tuple, ADD), nested(list, ADD), nested(tuple, 1), nested(list, "one"), nested(tuple, "b")):
            self.no(deep, ("add", "one", deep), ("add", deep, ADD[2]), ("drop", "one", deep), ("drop", "one", (deep,)),
                    ("set", "one", (1,), deep), ("set", "one", (1,), (("b", deep),)),
                    ("set", "one", (1,), ((deep, 1),)))

    def test_whether_it_can_be_done_does_not_matter(self):
        self.assertIs(is_deed(SCHEMA, ("add", "place", (0, "", 55, -7))), True)
        self.assertIs(is_deed(SCHEMA, ("set", "good", ("a", 1), (("spare", "zz"),))), True)

    def test_deeds_of_all_kinds(self):
        for schema, store, deed in made_cases(41, 60, 4):
            self.assertIs(is_deed(schema, deed), True, (schema, deed))
            for spoilt in with_one_listed(deed):
                self.assertIs(is_deed(schema, spoilt), False, (schema, spoilt))

    def test_things_are_not_changed_and_answers_stay(self):
        for thing in ODD_THINGS + (ADD, DROP, SET, list(ADD), ("add", "one", list(ADD[2]))):
            before = copy.deepcopy((TABLES, thing))
            answers = [is_deed(TABLES, thing) for k in range(3)]
            self.assertEqual((TABLES, thing), before)
            self.assertEqual(len(set(answers)), 1)


if __name__ == "__main__":
    unittest.main()
