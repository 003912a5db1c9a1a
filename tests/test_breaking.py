import copy
import unittest

from dealtables.breaking import breaks, is_good, kept, key_of, row_of
from dealtables.errors import NoRow
from dealtables.schemas import is_schema, is_store
from tests.examples import SCHEMA, STORE
from tests.making import dice, made_schema, made_store
from tests.plainly import plain_breaks

K = ("k", "whole", False)
B = ("b", "whole", True)
C = ("c", "whole", True)
S = ("s", "text", True)
PAIR = ("pair", (("n", "whole", False), ("v", "whole", True), ("w", "text", False)), ("w", "n"), ())


def table(rules=(), name="tab", columns=(K, B, C, S), key=("k",)):
    return (name, columns, key, rules)


class Keys(unittest.TestCase):
    """3.1: key_of."""

    def test_one_column(self):
        self.assertEqual(key_of(table(), (7, 1, 2, "x")), (7,))
        self.assertEqual(key_of(table(columns=(B, ("x", "text", False)), key=("x",)), (1, "y")), ("y",))
        self.assertEqual(key_of(table(columns=(K,)), (0,)), (0,))

    def test_two_columns_in_the_turn_of_the_key(self):
        self.assertEqual(key_of(PAIR, (1, None, "x")), ("x", 1))
        self.assertEqual(key_of(PAIR[:2] + (("n", "w"), ()), (1, None, "x")), (1, "x"))
        self.assertEqual(key_of(SCHEMA[1], ("", 3, None)), ("", 3))

    def test_a_tuple_is_told(self):
        self.assertIs(type(key_of(PAIR, (1, None, "x"))), tuple)


class RowOf(unittest.TestCase):
    """3.1: row_of."""

    schema = (table(), PAIR)
    store = (((-5, 1, 1, "a"), (0, None, None, None), (1, 0, 0, ""), (7, 7, 7, "x")),
             ((1, None, ""), (5, None, "a"), (1, 2, "b"), (9, 3, "b")))

    def refused(self, name, key):
        with self.assertRaises(NoRow) as caught:
            row_of(self.schema, self.store, name, key)
        self.assertIs(type(caught.exception), NoRow)
        self.assertEqual(caught.exception.at, 0)

    def test_all_rows(self):
        self.assertIs(is_store(self.schema, self.store), True)
        for one, rows in zip(self.schema, self.store):
            for row in rows:
                self.assertEqual(row_of(self.schema, self.store, one[0], key_of(one, row)), row)

    def test_keys_that_are_not_there(self):
        for key in ((2,), (-1,), (8,), (-999,), (999,), (70,)):
            self.refused("tab", key)
        for key in (("", 2), ("", 5), ("a", 1), ("b", 5), ("c", 1), ("x", 7)):
            self.refused("pair", key)

    def test_keys_of_another_table(self):
        self.refused("tab", ("b", 1))
        self.refused("pair", (7,))

    def test_tables_that_are_not_there(self):
        self.refused("none", (7,))

    def test_keys_of_two_columns_in_another_turn(self):
        self.assertEqual(row_of(self.schema, self.store, "pair", ("b", 1)), (1, 2, "b"))
        self.refused("pair", (1, "b"))

    def test_tables_without_rows(self):
        with self.assertRaises(NoRow):
            row_of(self.schema, ((), ()), "tab", (0,))

    def test_a_truth_is_no_key(self):
        self.refused("tab", (True,))
        self.refused("tab", (False,))
        self.refused("pair", ("", True))

    def test_beyond_the_bounds(self):
        store = (((5000, None, None, None),), ())
        self.assertEqual(row_of(self.schema, store, "tab", (5000,)), (5000, None, None, None))


class Kept(unittest.TestCase):
    """3.1: kept."""

    rules = (("check", ("is", "b", 1)), ("unlike", ("b",)), ("check", ("below", "b", "c")), ("check", ("empty", "s")))

    def test_true_false_and_open(self):
        one = table(self.rules)
        for row, number, answer in (
                ((0, 1, None, None), 0, True), ((0, 2, None, None), 0, False), ((0, None, None, None), 0, True),
                ((0, 1, 2, None), 2, True), ((0, 2, 1, None), 2, False), ((0, 2, None, None), 2, True),
                ((0, None, 2, None), 2, True), ((0, None, None, None), 3, True), ((0, None, None, ""), 3, False)):
            self.assertIs(kept(one, row, number), answer, (row, number))

    def test_a_rule_beyond_the_third(self):
        one = table((("unlike", ("b",)),) * 5 + (("check", ("not", ("is", "k", 3))),))
        self.assertIs(kept(one, (3, None, None, None), 5), False)
        self.assertIs(kept(one, (4, None, None, None), 5), True)


class BreaksCase(unittest.TestCase):
    def told(self, schema, store, *triples):
        self.assertIs(is_schema(schema), True, schema)
        self.assertIs(is_store(schema, store), True, store)
        before = copy.deepcopy((schema, store))
        self.assertEqual(breaks(schema, store), triples)
        self.assertIs(is_good(schema, store), triples == ())
        self.assertEqual(breaks(schema, store), triples)
        self.assertEqual((schema, store), before)


class Checks(BreaksCase):
    """3.2: checks."""

    schema = (table((("check", ("below", "b", "c")),)),)

    def test_false_true_and_open(self):
        rows = ((0, 1, 2, None), (1, 2, 2, None), (2, None, 1, None), (3, 1, None, None), (4, None, None, "x"),
                (5, 5, 4, None), (6, -5, 0, ""))
        self.told(self.schema, (rows,), ("tab", 0, (1,)), ("tab", 0, (5,)))

    def test_none_broken(self):
        self.told(self.schema, (((0, 1, 2, None), (1, None, 2, None)),))


class Unlikes(BreaksCase):
    """3.2: unlike."""

    one = (table((("unlike", ("b",)),)),)
    two = (table((("unlike", ("s", "b")),)),)

    def test_one_column(self):
        self.told(self.one, (((0, 1, None, None), (1, 2, None, None), (2, 3, None, None)),))
        self.told(self.one, (((0, 1, 5, "x"), (1, 2, None, None), (2, 1, None, None)),),
                  ("tab", 0, (0,)), ("tab", 0, (2,)))

    def test_three_rows_alike(self):
        self.told(self.one, (((0, 1, None, None), (1, 1, None, None), (2, 7, 1, None), (3, 1, None, None)),),
                  ("tab", 0, (0,)), ("tab", 0, (1,)), ("tab", 0, (3,)))

    def test_two_pairs_alike(self):
        self.told(self.one, (((0, 1, None, None), (1, 2, None, None), (2, 1, None, None), (3, 2, None, None)),),
                  ("tab", 0, (0,)), ("tab", 0, (1,)), ("tab", 0, (2,)), ("tab", 0, (3,)))

    def test_gaps_are_not_alike(self):
        self.told(self.one, (((0, None, 1, "x"), (1, None, 1, "x"), (2, None, 1, "x")),))
        self.told(self.two, (((0, 1, None, None), (1, 1, None, None), (2, None, None, "x"), (3, None, None, "x"),
                              (4, None, None, None), (5, None, None, None)),))

    def test_two_columns(self):
        self.told(self.two, (((0, 1, None, "x"), (1, 1, None, "y"), (2, 2, None, "x"), (3, 2, None, "y")),))
        self.told(self.two, (((0, 1, 1, "x"), (1, 1, 2, "y"), (2, 2, 3, "x"), (3, 1, 4, "x")),),
                  ("tab", 0, (0,)), ("tab", 0, (3,)))

    def test_two_columns_are_not_mixed_up(self):
        schema = (table((("unlike", ("b", "c")),)),)
        self.told(schema, (((0, 1, 2, None), (1, 2, 1, None)),))
        self.told(schema, (((0, 1, 2, None), (1, 1, 2, None)),), ("tab", 0, (0,)), ("tab", 0, (1,)))

    def test_a_column_of_the_key(self):
        schema = (("pair", PAIR[1], PAIR[2], (("unlike", ("n",)),)),)
        self.told(schema, (((1, None, "a"), (2, None, "a"), (1, None, "b")),),
                  ("pair", 0, ("a", 1)), ("pair", 0, ("b", 1)))

    def test_other_tables_do_not_count(self):
        schema = (table((("unlike", ("b",)),)), table((("unlike", ("b",)),), name="other"))
        self.told(schema, (((0, 1, None, None),), ((1, 1, None, None),)))

    def test_the_empty_text_and_nought_are_no_gaps(self):
        self.told((table((("unlike", ("s",)),)),), (((0, None, None, ""), (1, None, None, "")),),
                  ("tab", 0, (0,)), ("tab", 0, (1,)))
        self.told(self.one, (((0, 0, None, ""), (1, 0, None, "")),), ("tab", 0, (0,)), ("tab", 0, (1,)))


class Refers(BreaksCase):
    """3.2: refers."""

    def own(self, way):
        return (table((("refers", ("b",), "tab", way),)),)

    def test_each_way_is_broken_alike(self):
        for way in ("stop", "late", "along", "gap"):
            self.told(self.own(way), (((0, 1, None, None), (1, 0, None, None)),))
            self.told(self.own(way), (((0, 2, None, None), (1, 0, None, None)),), ("tab", 0, (0,)))

    def test_a_gap_refers_to_none(self):
        self.told(self.own("stop"), (((0, None, 5, "x"), (1, None, None, None)),))

    def test_a_row_that_refers_to_itself(self):
        self.told(self.own("stop"), (((0, 0, None, None), (1, 1, None, None)),))
        self.told((table((("refers", ("k",), "tab", "stop"),)),), (((0, None, None, None), (1, None, None, None)),))

    def test_two_columns_to_a_key_in_another_turn(self):
        schema = (table((("refers", ("s", "b"), "pair", "gap"),)), PAIR)
        pairs = ((1, None, "a"), (2, None, "b"))
        self.told(schema, (((0, 1, None, "a"), (1, 2, None, "b")), pairs))
        self.told(schema, (((0, 2, None, "a"), (1, 1, None, "b"), (2, 1, None, "a")), pairs),
                  ("tab", 0, (0,)), ("tab", 0, (1,)))

    def test_two_columns_with_one_gap_or_two(self):
        schema = (table((("refers", ("s", "b"), "pair", "stop"),)), PAIR)
        self.told(schema, (((0, 9, None, None), (1, None, None, "z"), (2, None, None, None)), ()))
        self.told(schema, (((0, 9, None, "z"),), ()), ("tab", 0, (0,)))

    def test_another_table_ahead_or_behind(self):
        rules = (("refers", ("b",), "other", "late"),)
        for schema in ((table(rules), table(name="other")), (table(name="other"), table(rules))):
            for rows, triples in ((((1, None, None, None),), ()), (((0, None, None, None),), (("tab", 0, (0,)),))):
                store = (((0, 1, None, None),), rows)
                self.told(schema, store if schema[0][0] == "tab" else store[::-1], *triples)

    def test_a_row_with_this_key_in_another_table_does_not_count(self):
        schema = (table((("refers", ("b",), "other", "stop"),)), table(name="other"))
        self.told(schema, (((0, 1, None, None), (1, None, None, None)), ()), ("tab", 0, (0,)))

    def test_other_columns_than_the_key_do_not_count(self):
        self.told(self.own("stop"), (((0, 5, None, None), (1, None, 5, None)),), ("tab", 0, (0,)))


class Triples(BreaksCase):
    """3.2: which triples are told, and in what order."""

    def test_rising_by_name_number_and_key(self):
        schema = (table((("check", ("is", "b", 0)), ("unlike", ("c",))), name="z"),
                  table((("unlike", ("b",)), ("check", ("is", "c", 0))), name="a"),
                  table((("check", ("is", "s", "")),), name="m", columns=(K, S)))
        store = (((-2, 5, 1, None), (-1, 0, 1, None), (10, 5, None, None)),
                 ((2, 7, 7, None), (9, 7, 0, None), (11, None, 1, None)), ((5, "x"), (50, "y"), (500, "")))
        self.told(schema, store, ("a", 0, (2,)), ("a", 0, (9,)), ("a", 1, (2,)), ("a", 1, (11,)), ("m", 0, (5,)),
                  ("m", 0, (50,)), ("z", 0, (-2,)), ("z", 0, (10,)), ("z", 1, (-2,)), ("z", 1, (-1,)))

    def test_one_row_breaks_several_rules(self):
        rules = (("check", ("is", "b", 0)), ("refers", ("b",), "tab", "gap"), ("check", ("is", "b", 1)))
        self.told((table(rules),), (((0, 7, None, None), (5, 0, None, None)),),
                  ("tab", 0, (0,)), ("tab", 1, (0,)), ("tab", 2, (0,)), ("tab", 2, (5,)))

    def test_the_same_rule_twice_is_broken_twice(self):
        self.told((table((("check", ("is", "b", 0)),) * 2),), (((0, 7, None, None),),),
                  ("tab", 0, (0,)), ("tab", 1, (0,)))

    def test_keys_of_two_columns(self):
        schema = (PAIR[:3] + ((("check", ("is", "v", 0)),),),)
        self.told(schema, (((5, 1, ""), (-1, 1, "a"), (3, 1, "a"), (1, 1, "b")),), ("pair", 0, ("", 5)),
                  ("pair", 0, ("a", -1)), ("pair", 0, ("a", 3)), ("pair", 0, ("b", 1)))

    def test_stores_without_rows(self):
        self.told(SCHEMA, ((), (), ()))
        self.told((table(),), ((),))

    def test_tables_without_rules(self):
        self.told((table(), PAIR), (((0, 1, 1, "x"), (1, 1, 1, "x")), ((1, 1, ""),)))

    def test_an_ordinary_store(self):
        self.told(SCHEMA, STORE, ("good", 0, ("a", -5)), ("good", 1, ("", 3)), ("good", 1, ("a", -5)),
                  ("good", 1, ("a", 0)), ("good", 2, ("a", -5)), ("good", 2, ("a", 0)), ("place", 2, (3,)))

    def test_more_than_three_rules(self):
        schema = (table((("unlike", ("b",)),) * 4 + (("check", ("is", "b", 0)),)),)
        self.assertEqual(breaks(schema, (((0, 7, None, None),),)), (("tab", 4, (0,)),))

    def test_tuples_of_tuples_and_truths_are_told(self):
        told = breaks(SCHEMA, STORE)
        for part in (told,) + told + tuple([triple[2] for triple in told]):
            self.assertIs(type(part), tuple)
        self.assertIs(is_good(SCHEMA, STORE), False)
        self.assertIs(is_good(SCHEMA, ((), (), ())), True)

    def test_all_kinds_of_stores(self):
        rolled = dice(31)
        many = []
        for k in range(400):
            schema = made_schema(rolled)
            store = made_store(rolled, schema)
            self.told(schema, store, *plain_breaks(schema, store))
            many.append(len(breaks(schema, store)))
        self.assertTrue(0 in many and max(many) > 9)

    def test_many_rows(self):
        schema = (table((("unlike", ("b",)), ("refers", ("c",), "tab", "stop"), ("check", ("below", "b", "c")))),)
        rows = tuple([(k, k, k + 1, None) for k in range(3000)])
        self.assertEqual(breaks(schema, (rows,)), (("tab", 1, (2999,)),))


if __name__ == "__main__":
    unittest.main()
