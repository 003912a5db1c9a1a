import unittest

from dealtables.asking import grouped, matched, picked, referring
from dealtables.breaking import breaks, key_of
from dealtables.errors import NoRow
from dealtables.schemas import is_schema, is_store
from tests.asked import AskedCase
from tests.making import dice, made_schema, made_store, made_test
from tests.plainly import every_row, plain_holds, plain_key, refers_by, worth_in
from tests.small import PAIRS, refers, row, table


class Picked(AskedCase):
    """6.1: picked."""

    schema = (table("b"), table("a", ("check", ("is", "x", 7))))
    store = ((row(5, 1),), (row(-3, 1, 2), row(0, 2, 1), row(1, None, 1, "a"), row(2, 1), row(9, 1, 5, "")))

    def rows(self, *places):
        return tuple([self.store[1][place] for place in places])

    def test_true_false_and_open(self):
        for test, places in ((("is", "x", 1), (0, 3, 4)), (("is", "x", 8), ()), (("below", "x", "y"), (0, 4)),
                             (("not", ("below", "x", "y")), (1,)), (("empty", "y"), (3,)), (("empty", "s"), (0, 1, 3)),
                             (("not", ("empty", "s")), (2, 4)), (("is", "s", ""), (4,)),
                             (("or", ("is", "x", 2), ("is", "s", "a")), (1, 2)),
                             (("and", ("is", "x", 1), ("is", "y", 2)), (0,)),
                             (("not", ("and", ("is", "x", 1), ("is", "y", 2))), (1, 2, 4)),
                             (("or", ("empty", "k"), ("not", ("empty", "k"))), (0, 1, 2, 3, 4))):
            self.told(self.rows(*places), picked, self.schema, self.store, "a", test)

    def test_of_its_own_table(self):
        self.told((row(5, 1),), picked, self.schema, self.store, "b", ("is", "x", 1))

    def test_a_table_without_rows(self):
        self.told((), picked, self.schema, ((), self.store[1]), "b", ("is", "x", 1))

    def test_a_test_its_opposite_and_what_it_leaves_open_part_all_rows(self):
        rolled = dice(81)
        seen = {}
        for k in range(300):
            schema = made_schema(rolled)
            store = made_store(rolled, schema)
            for home, rows in zip(schema, store):
                test = made_test(rolled, home[1], 3)
                parts = (self.ask(picked, schema, store, home[0], test),
                         self.ask(picked, schema, store, home[0], ("not", test)),
                         tuple([each for each in rows if plain_holds(home, test, each) is None]))
                self.assertEqual(sum([len(part) for part in parts]), len(rows))
                for part in parts:
                    self.assertEqual(part, tuple([each for each in rows if each in part]))
                self.assertEqual(parts[0], tuple([each for each in rows if plain_holds(home, test, each) is True]))
                seen[tuple([bool(part) for part in parts])] = True
        self.assertEqual(len(seen), 8)


class Matched(AskedCase):
    """6.1: matched."""

    def test_to_one_that_is_there_to_one_that_is_not_and_to_none(self):
        for way in ("stop", "late", "along", "gap"):
            schema = (table("a", refers("x", "b", way)), table("b"))
            store = ((row(1, 2), row(2), row(3, 9), row(4, 2, 5)), (row(1), row(2, 7, 7, "z")))
            aim = row(2, 7, 7, "z")
            self.told(((row(1, 2), aim), (row(2), None), (row(3, 9), None), (row(4, 2, 5), aim)),
                      matched, schema, store, "a", 0)

    def test_to_itself(self):
        schema = (table("a", refers("x", "a", "stop"), refers("k", "a", "stop")),)
        rows = (row(1, 1), row(2, 1), row(3, 4), row(4, 3))
        self.told(tuple(zip(rows, (rows[0], rows[0], rows[3], rows[2]))), matched, schema, (rows,), "a", 0)
        self.told(tuple(zip(rows, rows)), matched, schema, (rows,), "a", 1)

    def test_by_the_rule_with_this_number(self):
        schema = (table("a", refers("x", "a", "gap"), ("unlike", ("s",)), refers("y", "b", "late")), table("b"))
        store = ((row(1, 2, 7), row(2, 7, None)), (row(7), row(8)))
        self.told(((row(1, 2, 7), row(2, 7, None)), (row(2, 7, None), None)), matched, schema, store, "a", 0)
        self.told(((row(1, 2, 7), row(7)), (row(2, 7, None), None)), matched, schema, store, "a", 2)

    def test_references_of_two_columns(self):
        schema = (table("a", ("refers", ("s", "x"), "p", "gap")), PAIRS)
        aims = ((1, None, "f"), (2, 5, "f"), (1, 6, "g"))
        rows = (row(1, 1, None, "g"), row(2, 2, None, "f"), row(3, 2, None, "g"), row(4, 1), row(5, None, 1, "f"), row(6))
        self.assertIs(is_schema(schema) and is_store(schema, (rows, aims)), True)
        self.told(tuple(zip(rows, (aims[2], aims[1], None, None, None, None))), matched, schema, (rows, aims), "a", 0)

    def test_two_columns_are_not_mixed_up(self):
        pairs = ("q", (("m", "whole", False), ("n", "whole", False), ("x", "whole", True)), ("m", "n"), ())
        schema = (table("a", ("refers", ("y", "x"), "q", "late")), pairs)
        rows = (row(1, 1, 2), row(2, 2, 1))
        self.told(((rows[0], (2, 1, None)), (rows[1], None)), matched, schema, (rows, ((2, 1, None),)), "a", 0)

    def test_tables_without_rows(self):
        schema = (table("a", refers("x", "b", "stop")), table("b"))
        self.told((), matched, schema, ((), (row(1),)), "a", 0)
        self.told(((row(1, 1), None),), matched, schema, ((row(1, 1),), ()), "a", 0)

    def test_a_key_like_no_row_is_found_by_no_gap(self):
        schema = (table("a", ("refers", ("s",), "w", "gap")), ("w", (("t", "text", False),), ("t",), ()))
        self.told(((row(1, s=""), ("",)), (row(2), None)), matched, schema, ((row(1, s=""), row(2)), (("",),)), "a", 0)


class Referring(AskedCase):
    """6.1: referring."""

    def test_by_two_rules_of_one_table(self):
        schema = (table("a", refers("x", "a", "gap"), ("check", ("empty", "s")), refers("y", "a", "stop")),)
        store = ((row(1), row(2, 1, 1), row(3, 1, 9), row(4, 2, 1)),)
        self.told((("a", 0, (2,)), ("a", 0, (3,)), ("a", 2, (2,)), ("a", 2, (4,))), referring, schema, store, "a", (1,))
        self.told((("a", 0, (4,)),), referring, schema, store, "a", (2,))
        self.told((), referring, schema, store, "a", (3,))

    def test_from_two_tables_rising(self):
        schema = (table("z", refers("x", "m", "late")), table("m", refers("y", "m", "along")),
                  table("b", refers("x", "z", "stop"), refers("x", "m", "gap")))
        store = ((row(-1, 1), row(1, 2), row(10, 1)), (row(1, None, 1), row(2, None, 1)), (row(5, 1), row(40, 1)))
        self.told((("b", 1, (5,)), ("b", 1, (40,)), ("m", 0, (1,)), ("m", 0, (2,)), ("z", 0, (-1,)), ("z", 0, (10,))),
                  referring, schema, store, "m", (1,))
        self.told((("b", 0, (5,)), ("b", 0, (40,))), referring, schema, store, "z", (1,))

    def test_rows_of_another_table_with_this_key_do_not_count(self):
        schema = (table("a", refers("x", "b", "stop")), table("b"))
        store = ((row(1, 1), row(2, 1)), (row(1),))
        self.told((), referring, schema, store, "a", (1,))
        self.told((("a", 0, (1,)), ("a", 0, (2,))), referring, schema, store, "b", (1,))

    def test_references_of_two_columns(self):
        schema = (table("a", ("refers", ("s", "x"), "p", "gap")), PAIRS)
        store = ((row(1, 1, None, "f"), row(2, 1), row(3, None, None, "f"), row(4, 1, None, "f"), row(5, 2, None, "f")),
                 ((1, None, "f"), (2, None, "f"), (1, None, "g")))
        self.told((("a", 0, (1,)), ("a", 0, (4,))), referring, schema, store, "p", ("f", 1))
        self.told((("a", 0, (5,)),), referring, schema, store, "p", ("f", 2))
        self.told((), referring, schema, store, "p", ("g", 1))

    def test_keys_of_two_columns_rising(self):
        home = PAIRS[:3] + ((("refers", ("v",), "a", "late"),),)
        rows = ((9, 1, ""), (-1, 1, "a"), (3, 1, "a"), (0, 1, "b"))
        self.told((("p", 0, ("", 9)), ("p", 0, ("a", -1)), ("p", 0, ("a", 3)), ("p", 0, ("b", 0))),
                  referring, (home, table("a")), (rows, (row(1),)), "a", (1,))

    def test_no_row(self):
        schema = (table("a", refers("x", "b", "late")), table("b"))
        store = ((row(1, 9), row(2, 1)), (row(1),))
        for name, key in (("b", (9,)), ("b", (2,)), ("a", (9,)), ("b", (True,)), ("b", ("a",)), ("b", (1, 1)), ("b", ())):
            self.refused(NoRow, 0, referring, schema, store, name, key)
        self.refused(NoRow, 0, referring, schema, ((), ()), "a", (1,))

    def test_rows_that_refer_and_rows_that_are_referred_to_tell_one_another(self):
        rolled = dice(82)
        many = 0
        for k in range(250):
            schema = made_schema(rolled)
            store = made_store(rolled, schema)
            expected = []
            for home, each in every_row(schema, store):
                for number, rule in enumerate(home[3]):
                    if rule[0] == "refers":
                        aims = [(aim[0], plain_key(aim, aimed)) for aim, aimed in every_row(schema, store)
                                if refers_by(home, each, rule, aim, aimed)]
                        expected.extend([(aim, (home[0], number, plain_key(home, each))) for aim in aims])
            told = [((home[0], key_of(home, each)), triple) for home, each in every_row(schema, store)
                    for triple in self.ask(referring, schema, store, home[0], key_of(home, each))]
            self.assertEqual(sorted(told), sorted(expected))
            self.assertEqual(sorted(expected), sorted(self.from_matched(schema, store)))
            many += len(told)
        self.assertGreater(many, 1000)

    def from_matched(self, schema, store):
        found = []
        for home in schema:
            for number, rule in enumerate(home[3]):
                if rule[0] == "refers":
                    aim = [other for other in schema if other[0] == rule[2]][0]
                    pairs = self.ask(matched, schema, store, home[0], number)
                    self.assertEqual([pair[0] for pair in pairs], list(store[schema.index(home)]))
                    found.extend([((aim[0], key_of(aim, pair[1])), (home[0], number, key_of(home, pair[0])))
                                  for pair in pairs if pair[1] is not None])
                    lost = [triple[2] for triple in breaks(schema, store) if triple[:2] == (home[0], number)]
                    for each, aimed in pairs:
                        gaps = None in [worth_in(home, each, name) for name in rule[1]]
                        self.assertEqual(aimed is None, gaps or key_of(home, each) in lost)
        return found

    def test_each_row_is_told_rising_and_once(self):
        rolled = dice(83)
        for k in range(100):
            schema = made_schema(rolled)
            store = made_store(rolled, schema)
            for home, each in every_row(schema, store):
                told = self.ask(referring, schema, store, home[0], key_of(home, each))
                self.assertEqual(list(told), sorted(set(told)))


class Grouped(AskedCase):
    """6.1: grouped."""

    schema = (table("a", ("unlike", ("x",))), PAIRS)
    store = ((row(1, 5, 0, "b"), row(2, -5, 0, ""), row(3, None, 0, "10"), row(4, 5, 0, "9"), row(5, 40, 0, None),
              row(6, None, 0, "b")), ((1, None, "f"), (7, None, "f"), (1, None, "g")))

    def test_whole_numbers(self):
        self.told((((-5, 1), (5, 2), (40, 1)), 2), grouped, self.schema, self.store, "a", "x")
        self.told((((0, 6),), 0), grouped, self.schema, self.store, "a", "y")

    def test_texts(self):
        self.told(((("", 1), ("10", 1), ("9", 1), ("b", 2)), 1), grouped, self.schema, self.store, "a", "s")

    def test_columns_of_the_key(self):
        self.told((tuple([(number, 1) for number in range(1, 7)]), 0), grouped, self.schema, self.store, "a", "k")
        self.told((((1, 2), (7, 1)), 0), grouped, self.schema, self.store, "p", "m")
        self.told(((("f", 2), ("g", 1)), 0), grouped, self.schema, self.store, "p", "n")

    def test_gaps_alone(self):
        self.told(((), 3), grouped, self.schema, self.store, "p", "v")

    def test_a_table_without_rows(self):
        for column in ("k", "x", "s"):
            self.told(((), 0), grouped, self.schema, ((), self.store[1]), "a", column)

    def test_all_kinds_of_stores(self):
        rolled = dice(84)
        for k in range(200):
            schema = made_schema(rolled)
            store = made_store(rolled, schema)
            for home, rows in zip(schema, store):
                for column in home[1]:
                    worths = [worth_in(home, each, column[0]) for each in rows]
                    counts = [(worth, worths.count(worth)) for worth in worths if worth is not None]
                    self.told((tuple(sorted(set(counts))), worths.count(None)), grouped, schema, store, home[0],
                              column[0])


if __name__ == "__main__":
    unittest.main()
