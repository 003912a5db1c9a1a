import copy
import unittest

from dealtables.schemas import is_row, is_store
from tests.examples import (GOODS, ODD_THINGS, PLACES, SCHEMA, STORE, WHOLES, nested, other_kinds, with_one_leaf,
                            with_one_listed)

MIX = ("mix", (("a", "whole", False), ("b", "whole", True), ("t", "text", True), ("u", "text", False)), ("a",), ())


class RowCase(unittest.TestCase):
    def yes(self, table, *rows):
        for row in rows:
            self.assertIs(is_row(table, row), True, row)

    def no(self, table, *things):
        for thing in things:
            self.assertIs(is_row(table, thing), False, thing)


class Rows(RowCase):
    """0.5, 0.4: is_row."""

    def test_ordinary(self):
        self.yes(MIX, (1, 2, "x", "y"), (0, 0, "0", "abc9"), (1, None, None, ""))
        for table, rows in zip(SCHEMA, STORE):
            self.yes(table, *rows)

    def test_whole_worths_at_the_edges(self):
        self.yes(MIX, (-999, 999, "", ""), (999, -999, "", ""), (0, -1, "", ""))
        for beyond in (-1000, 1000, -10 ** 30, 10 ** 30):
            self.no(MIX, (beyond, 0, "", ""), (0, beyond, "", ""))

    def test_texts_at_the_edges(self):
        self.yes(MIX, (0, 0, "", ""), (0, 0, "abcdef", "uvwxyz"), (0, 0, "012345", "6789az"), (0, 0, "a", "9"))
        self.no(MIX, (0, 0, "abcdefg", ""), (0, 0, "", "0123456"))

    def test_signs_of_texts(self):
        for text in ("A", "Z", " ", "a ", "-", "-1", "_", "'", "?", "~", "`", "{", "/", ":", "a.b", "\n", "a\n",
                     "\u00e9", "\u00b2", "\u0663"):
            self.no(MIX, (0, 0, text, ""), (0, 0, "", text))

    def test_gaps_only_where_they_may_stand(self):
        self.yes(MIX, (0, None, None, ""))
        self.no(MIX, (None, 0, "", ""), (0, 0, "", None), (None, None, None, None))

    def test_kinds(self):
        self.no(MIX, ("1", 2, "x", "y"), (1, "2", "x", "y"), (1, 2, 3, "y"), (1, 2, "x", 4), (1, "", "x", "y"))

    def test_a_truth_is_no_worth(self):
        self.no(MIX, (True, 2, "x", "y"), (1, False, "x", "y"), (1, 2, True, "y"), (1, 2, "x", False))

    def test_parts_missing_or_too_many(self):
        row = (1, None, None, "y")
        self.no(MIX, *[row[:many] for many in range(4)])
        self.no(MIX, row + (None,), row + ("",), row + (1,), row + row)

    def test_columns_in_turn(self):
        self.no(MIX, ("y", "x", 2, 1), (1, "x", 2, "y"))

    def test_one_column(self):
        one = ("one", (("a", "text", False),), ("a",), ())
        self.yes(one, ("",), ("a",))
        self.no(one, (), "a", "", ("a", "a"), (None,), (1,), (("a",),))

    def test_rules_need_not_be_kept(self):
        strict = MIX[:3] + ((("check", ("is", "a", 5)),),)
        self.yes(strict, (1, 2, "x", "y"))

    def test_odd_things(self):
        self.no(MIX, *ODD_THINGS)
        self.no(WHOLES, *ODD_THINGS)
        for odd in (nested(tuple, 1), nested(list, 1), (), [], (1,), [1], ("x",)):
            self.no(MIX, (odd, 2, "x", "y"), (1, odd, "x", "y"), (1, 2, odd, "y"), (1, 2, "x", odd))

    def test_lists_may_stand_nowhere(self):
        self.no(MIX, *with_one_listed((1, 2, "x", "y")))
        self.no(MIX, [1, None, None, "y"])

    def test_other_kinds_in_each_place(self):
        self.no(MIX, *with_one_leaf((1, 2, "x", "y"), other_kinds))
        self.no(MIX, *with_one_leaf((1, None, None, "y"), other_kinds))

    def test_things_are_not_changed_and_answers_stay(self):
        for thing in ODD_THINGS + ((1, 2, "x", "y"), [1, 2, "x", "y"], (1, 2, "x", ["y"])):
            before = copy.deepcopy(thing)
            answers = [is_row(MIX, thing) for k in range(3)]
            self.assertEqual(thing, before)
            self.assertEqual(len(set(answers)), 1)


class StoreCase(unittest.TestCase):
    def yes(self, schema, *stores):
        for store in stores:
            self.assertIs(is_store(schema, store), True, store)

    def no(self, schema, *things):
        for thing in things:
            self.assertIs(is_store(schema, thing), False, thing)


class Stores(StoreCase):
    """0.8: is_store."""

    one = (WHOLES,)

    def test_ordinary(self):
        self.yes(SCHEMA, STORE, ((), (), ()))
        self.yes(self.one, ((),), (((1, None),),), (((1, None), (2, 3)),))

    def test_a_tuple_for_each_table(self):
        self.no(SCHEMA, (), ((),), STORE[:2], STORE + ((),), ((), (), (), ()), STORE[1:])
        self.no(self.one, (), ((), ()), ((1, None),), (1, None))

    def test_tables_in_turn(self):
        self.no(SCHEMA, (STORE[1], STORE[0], ()), ((), (), STORE[0]))

    def test_each_row_counts(self):
        self.no(self.one, ((("1", None),),), (((1, None), (2, "x")),), (((1, None), (2, 3, 4)),), (((True, None),),))
        self.no(SCHEMA, STORE[:2] + (((1, 1),),), (STORE[0] + ((4, None, None, None),),) + STORE[1:])

    def test_keys_rising(self):
        self.yes(self.one, (((-999, 5), (-3, 4), (0, 3), (9, 2), (10, 1), (999, 0)),))
        self.no(self.one, (((2, None), (1, None)),), (((1, 0), (3, 0), (2, 0)),), (((-1, 0), (-2, 0)),))

    def test_no_key_twice(self):
        self.no(self.one, (((1, None), (1, None)),), (((1, 1), (1, 2)),), (((0, 0), (1, 2), (1, 1)),))

    def test_texts_as_texts_are_compared(self):
        words = (("words", (("a", "text", False),), ("a",), ()),)
        self.yes(words, ((("",), ("0",), ("10",), ("9",), ("a",), ("aa",), ("b",)),))
        self.no(words, ((("9",), ("10",)),), ((("b",), ("aa",)),), ((("a",), ("",)),), ((("a",), ("9",)),))
        self.no(words, ((("",), ("",)),))

    def test_keys_of_two_columns(self):
        goods = (GOODS,)
        self.yes(goods, ((("a", -1, None), ("a", 2, None), ("a", 10, None), ("b", -5, None)),))
        self.no(goods, ((("a", 2, None), ("a", -1, None)),), ((("b", 0, None), ("a", 5, None)),),
                ((("a", 2, "x"), ("a", 2, "y")),))

    def test_the_key_in_its_own_turn(self):
        turned = (("turned", (("a", "whole", False), ("b", "whole", False), ("c", "whole", False)), ("c", "a"), ()),)
        self.yes(turned, (((9, 0, 1), (3, 0, 2), (4, 9, 2)),), (((2, 2, 1), (1, 1, 2)),))
        self.no(turned, (((1, 1, 2), (2, 2, 1)),), (((4, 0, 2), (3, 9, 2)),), (((1, 1, 5), (1, 2, 5)),))

    def test_columns_behind_the_key_do_not_count(self):
        self.yes(self.one, (((1, 9), (2, 1), (3, None), (4, 0)),))

    def test_each_table_counts(self):
        two = (WHOLES, ("other",) + WHOLES[1:])
        self.yes(two, (((1, 1),), ((0, 0),)))
        self.no(two, (((1, 1), (0, 0)), ()), ((), ((1, 1), (0, 0))), (((1, "x"),), ()), ((), ((1, "x"),)))

    def test_rules_need_not_be_kept(self):
        broken = (((1, "a", 500, -7), (2, "a", 600, -7)), (("b", 9, "a"),), (("x", 1),))
        self.yes(SCHEMA, broken)

    def test_schemas_somewhat_beyond_the_bounds(self):
        many = tuple([("t" * k,) + WHOLES[1:] for k in range(1, 7)])
        self.yes(many, ((),) * 6, (((1, None),),) * 6)
        self.no(many, ((),) * 5)


class AnyThing(StoreCase):
    """1.1, 0.3: any thing is answered, none is changed."""

    def test_odd_things(self):
        self.no(SCHEMA, *ODD_THINGS)
        for odd in ODD_THINGS:
            self.no((WHOLES,), ((odd,),), ((), (odd,)))
            # The empty tuple is the one odd thing that stands for a table's rows.
            self.assertIs(is_store((WHOLES,), (odd,)), odd == ())

    def test_lists_may_stand_nowhere(self):
        spoilt = with_one_listed(STORE)
        self.assertEqual(len(spoilt), 1 + 3 + 6)
        self.no(SCHEMA, *spoilt)
        self.no((WHOLES,), [()], ([],), [[]])

    def test_other_kinds_in_each_place(self):
        self.no(SCHEMA, *with_one_leaf(STORE, other_kinds))

    def test_deep_nestings(self):
        self.no((PLACES,), nested(tuple, ()), nested(tuple, STORE), nested(list, STORE[0]), (nested(tuple, ()),),
                ((nested(tuple, 1),),), (((nested(list, 1), "", None, None),),))

    def test_things_are_not_changed_and_answers_stay(self):
        for thing in ODD_THINGS + (STORE, list(STORE), ([], (), ()), (STORE[0], list(STORE[1]), ())):
            before = copy.deepcopy(thing)
            answers = [is_store(SCHEMA, thing) for k in range(3)]
            self.assertEqual(thing, before)
            self.assertEqual(len(set(answers)), 1)


if __name__ == "__main__":
    unittest.main()
