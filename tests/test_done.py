import copy
import unittest

from dealtables.breaking import breaks
from dealtables.doing import done, is_deed
from dealtables.errors import BadCheck, DealError, Held, NoRef, NoRow, Twice
from dealtables.schemas import is_schema, is_store
from tests.making import made_cases
from tests.plainly import plain_done
from tests.small import PAIRS, refers, row, table


def late_alone(schema, store):
    """Whether the store breaks no rules but refers of late."""
    rules = {each[0]: each[3] for each in schema}
    return all([rules[name][number][-1] == "late" for name, number, key in breaks(schema, store)])


class DoneCase(unittest.TestCase):
    def do(self, schema, store, deed):
        self.assertIs(is_schema(schema), True, schema)
        self.assertIs(is_store(schema, store), True, store)
        self.assertIs(late_alone(schema, store), True, store)
        self.assertIs(is_deed(schema, deed), True, deed)
        before = copy.deepcopy((schema, store, deed))
        try:
            return done(schema, store, deed)
        finally:
            self.assertEqual((schema, store, deed), before)

    def comes(self, schema, store, deed, *behind):
        for k in range(2):
            told = self.do(schema, store, deed)
            self.assertEqual(told, behind)
            self.assertIs(is_store(schema, told), True, told)
            self.assertIs(late_alone(schema, told), True, told)

    def refused(self, error, schema, store, deed):
        for k in range(2):
            with self.assertRaises(DealError) as caught:
                self.do(schema, store, deed)
            self.assertIs(type(caught.exception), error)
            self.assertEqual(caught.exception.at, 0)


class Adds(DoneCase):
    """4.3: add."""

    plain = (table("a"), PAIRS)

    def test_into_a_store_without_rows(self):
        self.comes(self.plain, ((), ()), ("add", "a", row(1)), (row(1),), ())
        self.comes(self.plain, ((), ()), ("add", "p", (1, None, "x")), (), ((1, None, "x"),))

    def test_keys_rising_behind_it(self):
        rows = (row(-5), row(2, 7), row(9), row(10))
        for number, at in ((-999, 0), (-6, 0), (-4, 1), (0, 1), (3, 2), (8, 2), (11, 4), (999, 4)):
            self.comes(self.plain, (rows, ()), ("add", "a", row(number)), rows[:at] + (row(number),) + rows[at:], ())

    def test_keys_of_two_columns_rising(self):
        rows = ((5, None, ""), (1, None, "a"), (9, None, "a"), (0, None, "c"))
        for new, at in (((4, None, ""), 0), ((6, 0, ""), 1), ((0, 0, "a"), 1), ((2, None, "a"), 2),
                        ((10, None, "a"), 3),
                        ((-9, None, "b"), 3), ((1, None, "c"), 4), ((-9, None, "d"), 4)):
            self.comes(self.plain, ((), rows), ("add", "p", new), (), rows[:at] + (new,) + rows[at:])

    def test_texts_rising_as_texts_are_compared(self):
        words = (("w", (("t", "text", False),), ("t",), ()),)
        self.comes(words, ((("",), ("9",), ("b",)),), ("add", "w", ("10",)), (("",), ("10",), ("9",), ("b",)))

    def test_twice_by_its_key(self):
        store = ((row(1), row(2)), ((1, None, "x"),))
        self.refused(Twice, self.plain, store, ("add", "a", row(1)))
        self.refused(Twice, self.plain, store, ("add", "a", row(2, 5, 5, "z")))
        self.refused(Twice, self.plain, store, ("add", "p", (1, 8, "x")))
        self.comes(self.plain, store, ("add", "p", (2, None, "x")), store[0], ((1, None, "x"), (2, None, "x")))
        self.comes(self.plain, store, ("add", "p", (1, None, "y")), store[0], ((1, None, "x"), (1, None, "y")))

    def test_other_tables_do_not_count(self):
        schema = (table("a"), table("b"))
        self.comes(schema, ((row(1),), ()), ("add", "b", row(1)), (row(1),), (row(1),))

    def test_unlike(self):
        schema = (table("a", ("unlike", ("x", "s"))),)
        store = ((row(1, 5, 1, "a"), row(2, 5, 1, "b"), row(3, None, 1, "a"), row(4, 5, 1, None)),)
        self.refused(Twice, schema, store, ("add", "a", row(9, 5, 2, "a")))
        self.refused(Twice, schema, store, ("add", "a", row(0, 5, None, "b")))
        for new in (row(9, 6, 1, "a"), row(9, 5, 1, "c"), row(9, None, 1, "a"), row(9, 5, 1, None), row(9)):
            self.comes(schema, store, ("add", "a", new), store[0] + (new,))

    def test_checks(self):
        schema = (table("a", ("check", ("below", "x", "y"))),)
        self.refused(BadCheck, schema, ((),), ("add", "a", row(1, 2, 1)))
        self.refused(BadCheck, schema, ((row(0, 1, 2),),), ("add", "a", row(1, 1, 1)))
        for new in (row(1, 1, 2), row(1, None, 2), row(1, 1, None), row(1)):
            self.comes(schema, ((),), ("add", "a", new), (new,))

    def test_references(self):
        for way in ("stop", "along", "gap"):
            schema = (table("a", refers("x", "b", way)), table("b"))
            self.refused(NoRef, schema, ((row(7),), ()), ("add", "a", row(1, 7)))
            self.comes(schema, ((), (row(7),)), ("add", "a", row(1, 7)), (row(1, 7),), (row(7),))
            self.comes(schema, ((), ()), ("add", "a", row(1, None, 7)), (row(1, None, 7),), ())

    def test_a_reference_to_itself(self):
        for way in ("stop", "along", "gap", "late"):
            schema = (table("a", refers("x", "a", way)),)
            self.comes(schema, ((),), ("add", "a", row(1, 1)), (row(1, 1),))

    def test_references_of_two_columns(self):
        schema = (table("a", ("refers", ("s", "x"), "p", "stop")), PAIRS)
        store = ((), ((1, None, "x"),))
        self.comes(schema, store, ("add", "a", row(1, 1, None, "x")), (row(1, 1, None, "x"),), store[1])
        self.comes(schema, store, ("add", "a", row(1, 5, None, None)), (row(1, 5, None, None),), store[1])
        self.refused(NoRef, schema, store, ("add", "a", row(1, 2, None, "x")))
        self.refused(NoRef, schema, store, ("add", "a", row(1, 1, None, "y")))

    def test_late_references_may_be_broken(self):
        schema = (table("a", refers("x", "a", "late")),)
        self.comes(schema, ((),), ("add", "a", row(1, 7)), (row(1, 7),))
        self.comes(schema, ((row(1, 7),),), ("add", "a", row(2, 8)), (row(1, 7), row(2, 8)))
        self.comes(schema, ((row(1, 7),),), ("add", "a", row(7)), (row(1, 7), row(7)))


class Sets(DoneCase):
    """4.3: set."""

    def test_worths_are_put_there(self):
        schema = (table("a"), PAIRS)
        store = ((row(1, 2, 3, "x"), row(2, 5)), ((1, None, "x"), (2, 7, "x")))
        self.comes(schema, store, ("set", "a", (1,), (("y", 9),)), (row(1, 2, 9, "x"), row(2, 5)), store[1])
        self.comes(schema, store, ("set", "a", (2,), (("s", ""), ("x", None))),
                   (row(1, 2, 3, "x"), row(2, None, None, "")),
                   store[1])
        self.comes(schema, store, ("set", "a", (1,), (("s", "q"), ("y", 0), ("x", -1))),
                   (row(1, -1, 0, "q"), row(2, 5)),
                   store[1])
        self.comes(schema, store, ("set", "p", ("x", 2), (("v", None),)), store[0], ((1, None, "x"), (2, None, "x")))

    def test_the_same_worths_again(self):
        store = ((row(1, 2, 3, "x"),),)
        self.comes((table("a"),), store, ("set", "a", (1,), (("x", 2), ("s", "x"))), *store)

    def test_no_row(self):
        schema = (table("a", ("check", ("is", "x", 1))), PAIRS)
        store = ((row(1, 1),), ((1, None, "x"),))
        self.refused(NoRow, schema, store, ("set", "a", (2,), (("x", 1),)))
        self.refused(NoRow, schema, store, ("set", "a", (2,), (("x", 2),)))
        self.refused(NoRow, schema, store, ("set", "p", ("y", 1), (("v", 1),)))
        self.refused(NoRow, schema, ((), ()), ("set", "a", (1,), (("x", 1),)))

    def test_unlike(self):
        schema = (table("a", ("unlike", ("x",))),)
        store = ((row(1, 5), row(2, 6), row(3), row(4)),)
        self.refused(Twice, schema, store, ("set", "a", (2,), (("x", 5),)))
        self.refused(Twice, schema, store, ("set", "a", (3,), (("x", 6),)))
        self.comes(schema, store, ("set", "a", (1,), (("x", 5),)), *store)
        self.comes(schema, store, ("set", "a", (1,), (("x", None),)), (row(1),) + store[0][1:])
        self.comes(schema, store, ("set", "a", (1,), (("x", 7),)), (row(1, 7),) + store[0][1:])

    def test_checks(self):
        schema = (table("a", ("check", ("below", "x", "y"))),)
        store = ((row(1, 1, 2),),)
        self.refused(BadCheck, schema, store, ("set", "a", (1,), (("x", 2),)))
        self.refused(BadCheck, schema, store, ("set", "a", (1,), (("y", 0), ("s", "z"))))
        self.comes(schema, store, ("set", "a", (1,), (("x", 5), ("y", 6))), (row(1, 5, 6),))
        self.comes(schema, store, ("set", "a", (1,), (("x", None),)), (row(1, None, 2),))

    def test_references(self):
        for way in ("stop", "along", "gap"):
            schema = (table("a", refers("x", "a", way)),)
            store = ((row(1, 2), row(2)),)
            self.refused(NoRef, schema, store, ("set", "a", (1,), (("x", 3),)))
            self.comes(schema, store, ("set", "a", (1,), (("x", 1),)), (row(1, 1), row(2)))
            self.comes(schema, store, ("set", "a", (1,), (("x", None),)), (row(1), row(2)))
            self.comes(schema, store, ("set", "a", (2,), (("x", 1),)), (row(1, 2), row(2, 1)))

    def test_late_references_may_be_broken(self):
        schema = (table("a", refers("x", "a", "late")),)
        self.comes(schema, ((row(1),),), ("set", "a", (1,), (("x", 3),)), (row(1, 3),))

    def test_what_refers_to_it_does_not_hold_it(self):
        schema = (table("a", refers("x", "a", "stop")),)
        self.comes(schema, ((row(1), row(2, 1)),), ("set", "a", (1,), (("y", 3),)), (row(1, None, 3), row(2, 1)))


class Drops(DoneCase):
    """4.3: drop."""

    def test_alone(self):
        schema = (table("a"), PAIRS)
        store = ((row(1), row(2), row(3)), ((1, None, "x"), (2, None, "x")))
        self.comes(schema, store, ("drop", "a", (2,)), (row(1), row(3)), store[1])
        self.comes(schema, store, ("drop", "p", ("x", 1)), store[0], ((2, None, "x"),))
        self.comes(schema, ((row(1),), ()), ("drop", "a", (1,)), (), ())

    def test_no_row(self):
        schema = (table("a"), PAIRS)
        store = ((row(1),), ((1, None, "x"),))
        self.refused(NoRow, schema, store, ("drop", "a", (2,)))
        self.refused(NoRow, schema, store, ("drop", "p", ("y", 1)))
        self.refused(NoRow, schema, ((), ()), ("drop", "a", (1,)))

    def test_held(self):
        schema = (table("a", refers("x", "a", "along"), refers("y", "a", "stop")),)
        self.refused(Held, schema, ((row(1), row(2, None, 1)),), ("drop", "a", (1,)))
        self.refused(Held, schema, ((row(1), row(2, 1), row(3, None, 2)),), ("drop", "a", (1,)))
        self.comes(schema, ((row(1), row(2, 1, 1), row(3)),), ("drop", "a", (1,)), (row(3),))

    def test_along_over_tables_and_in_a_circle(self):
        schema = (table("a", refers("x", "b", "along")), table("b", refers("x", "a", "along")))
        store = ((row(1, 1), row(2, 2), row(3, 1)), (row(1, 3), row(2), row(3, 2)))
        self.comes(schema, store, ("drop", "b", (1,)), (row(2, 2),), (row(2), row(3, 2)))
        self.comes(schema, store, ("drop", "b", (2,)), (row(1, 1), row(3, 1)), (row(1, 3),))

    def test_gaps(self):
        schema = (table("a", refers("x", "a", "gap")),)
        store = ((row(1, 1, 1), row(2, 1, 1, "z"), row(3, 2, 1)),)
        self.comes(schema, store, ("drop", "a", (1,)), (row(2, None, 1, "z"), row(3, 2, 1)))

    def test_gaps_in_all_columns_of_the_rule(self):
        schema = (table("a", ("refers", ("s", "y"), "p", "gap")), PAIRS)
        store = ((row(1, 1, 1, "x"), row(2, 1, 2, "x"), row(3, 1, 1, None)), ((1, None, "x"), (2, None, "x")))
        self.comes(schema, store, ("drop", "p", ("x", 1)), (row(1, 1), row(2, 1, 2, "x"), row(3, 1, 1, None)),
                   ((2, None, "x"),))

    def test_gaps_put_by_two_rules_into_one_row(self):
        schema = (table("a", refers("x", "a", "gap"), refers("y", "a", "gap")),)
        store = ((row(1), row(2, 1, 1, "z"), row(3, 1, 3), row(4, 2, 1)),)
        self.comes(schema, store, ("drop", "a", (1,)), (row(2, None, None, "z"), row(3, None, 3), row(4, 2)))

    def test_gaps_put_by_two_rules_with_a_column_in_common(self):
        # Each rule refers to a row that goes, as the store was; the gap of the one does not hide the other.
        for turn in (1, -1):
            rules = (("refers", ("s", "x"), "p", "gap"), ("refers", ("s", "y"), "p", "gap"))[::turn]
            schema = (table("a", *rules), PAIRS[:3] + ((("refers", ("n", "v"), "p", "along"),),))
            pairs = ((1, None, "x"), (2, 1, "x"), (3, None, "x"))
            self.comes(schema, ((row(1, 1, 2, "x"), row(2, 1, 3, "x"), row(3, 3, 3, "x")), pairs),
                       ("drop", "p", ("x", 1)),
                       (row(1), row(2, None, 3, None), row(3, 3, 3, "x")), ((3, None, "x"),))

    def test_gaps_of_rows_that_refer_to_one_that_goes_along(self):
        schema = (table("a", refers("x", "a", "along"), refers("y", "a", "gap")),)
        store = ((row(1), row(2, 1), row(3, None, 2), row(4, 3, 1), row(5, 2, 1)),)
        self.comes(schema, store, ("drop", "a", (1,)), (row(3), row(4, 3)))

    def test_a_check_that_a_gap_leaves_open(self):
        schema = (table("a", refers("x", "a", "gap"), ("check", ("is", "x", 1))),)
        self.comes(schema, ((row(1), row(2, 1)),), ("drop", "a", (1,)), (row(2),))

    def test_a_check_that_a_gap_breaks(self):
        schema = (table("a", refers("x", "a", "gap"), ("check", ("or", ("is", "k", 1), ("not", ("empty", "x"))))),)
        self.refused(BadCheck, schema, ((row(1), row(2, 1)),), ("drop", "a", (1,)))

    def test_gaps_are_never_alike(self):
        schema = (table("a", refers("x", "b", "gap"), ("unlike", ("x", "y"))), table("b"))
        store = ((row(1, 1, 5), row(2, 2, 5), row(3, None, 5)), (row(1), row(2)))
        self.comes(schema, store, ("drop", "b", (1,)), (row(1, None, 5), row(2, 2, 5), row(3, None, 5)), (row(2),))

    def test_late_references_are_left_behind(self):
        schema = (table("a", refers("x", "a", "late")), table("b", refers("x", "a", "late"), refers("y", "a", "gap")))
        store = ((row(1), row(2, 1)), (row(1, 1), row(2, 1, 1)))
        self.comes(schema, store, ("drop", "a", (1,)), (row(2, 1),), (row(1, 1), row(2, 1)))


class Order(DoneCase):
    """4.3: where several refusals are due, the one that is told first."""

    rules = (("unlike", ("x",)), ("check", ("is", "s", "")), refers("y", "a", "stop"))

    def each_turn(self):
        for first in range(3):
            for second in range(3):
                if first != second:
                    yield (table("a", self.rules[first], self.rules[second], self.rules[3 - first - second]),)

    def test_twice_by_its_key_ahead_of_all(self):
        for schema in self.each_turn():
            self.refused(Twice, schema, ((row(1, 1),),), ("add", "a", row(1, 1, 9, "z")))
            self.refused(Twice, schema, ((row(1, 1),),), ("add", "a", row(1, 2, 9, "z")))

    def test_unlike_check_refers(self):
        for schema in self.each_turn():
            store = ((row(1, 1), row(2, 2)),)
            for new, error in ((row(3, 1, 9, "z"), Twice), (row(3, 1, None, "z"), Twice), (row(3, 1, 9, ""), Twice),
                               (row(3, 3, 9, "z"), BadCheck), (row(3, 3, 1, "z"), BadCheck), (row(3, 3, 9, ""), NoRef)):
                self.refused(error, schema, store, ("add", "a", new))
                pairs = tuple([(name, worth) for name, worth in zip("xys", new[1:])])
                self.refused(error, schema, store, ("set", "a", (2,), pairs))
            self.comes(schema, store, ("add", "a", row(3, 3, 3, "")), store[0] + (row(3, 3, 3, ""),))

    def test_no_row_ahead_of_all(self):
        for schema in self.each_turn():
            self.refused(NoRow, schema, ((row(1, 1),),), ("set", "a", (2,), (("x", 1), ("y", 9), ("s", "z"))))

    def test_held_ahead_of_checks(self):
        schema = (table("a", refers("x", "a", "gap"), ("check", ("or", ("is", "k", 1), ("not", ("empty", "x")))),
                        refers("y", "a", "stop")),)
        self.refused(Held, schema, ((row(1), row(2, 1, 1)),), ("drop", "a", (1,)))
        self.refused(BadCheck, schema, ((row(1), row(2, 1, 2)),), ("drop", "a", (1,)))

    def test_late_ones_do_not_count(self):
        schema = (table("a", refers("x", "a", "late"), refers("y", "a", "stop")),)
        self.comes(schema, ((row(1, 7),),), ("add", "a", row(2, 8, 1)), (row(1, 7), row(2, 8, 1)))
        self.refused(NoRef, schema, ((row(1, 7),),), ("add", "a", row(2, 8, 9)))

    def test_rules_of_other_tables_count_too(self):
        schema = (table("a", refers("x", "b", "gap"), ("check", ("or", ("is", "y", 0), ("not", ("empty", "x"))))),
                  table("b", ("check", ("is", "x", 1))))
        self.refused(BadCheck, schema, ((row(1, 1, 5),), (row(1, 1),)), ("drop", "b", (1,)))
        self.comes(schema, ((row(1, 1, 0),), (row(1, 1),)), ("drop", "b", (1,)), (row(1, None, 0),), ())


class AllKinds(DoneCase):
    """4.3, 0.2 (c): of all kinds of stores and deeds."""

    def test_against_all_rows_looked_at_in_turn(self):
        seen = {}
        for schema, store, deed in made_cases(61, 500, 6):
            told = plain_done(schema, store, deed)
            if isinstance(told, str):
                self.refused({"Twice": Twice, "BadCheck": BadCheck, "NoRef": NoRef, "NoRow": NoRow, "Held": Held}[told],
                             schema, store, deed)
            else:
                self.comes(schema, store, deed, *told)
            seen[deed[0], told if isinstance(told, str) else ""] = True
        for kind in (("add", ""), ("add", "Twice"), ("add", "BadCheck"), ("add", "NoRef"), ("drop", ""),
                     ("drop", "NoRow"),
                     ("drop", "Held"), ("set", ""), ("set", "NoRow"), ("set", "Twice"), ("set", "BadCheck"),
                     ("set", "NoRef")):
            self.assertIn(kind, seen)

    def test_what_is_told_is_made_of_tuples(self):
        schema = (table("a", refers("x", "a", "gap")), PAIRS)
        store = ((row(1), row(2, 1)), ((1, None, "x"),))
        for deed in (("add", "a", row(3)), ("drop", "a", (1,)), ("set", "a", (1,), (("y", 1),))):
            told = done(schema, store, deed)
            for part in (told,) + told + told[0] + told[1]:
                self.assertIs(type(part), tuple)

    def test_somewhat_beyond_the_bounds(self):
        schema = (table("longname", *((("check", ("not", ("is", "x", 5000))),) * 5)),)
        self.assertEqual(done(schema, ((),), ("add", "longname", row(2000, 1, 2, "longer text"))),
                         ((row(2000, 1, 2, "longer text"),),))
        self.assertRaises(BadCheck, done, schema, ((),), ("add", "longname", row(2000, 5000)))


if __name__ == "__main__":
    unittest.main()
