import copy
import unittest

from dealtables.breaking import key_of
from dealtables.doing import done, going
from dealtables.errors import DealError, Held, NoRow
from dealtables.schemas import is_schema, is_store
from tests.making import dice, made_cases, made_schema, made_store
from tests.plainly import every_row, plain_going, refers_into


def table(name, *rules):
    return (name, (("k", "whole", False), ("x", "whole", True), ("y", "whole", True)), ("k",), rules)


def refers(column, name, way):
    return ("refers", (column,), name, way)


def places(name, *numbers):
    return tuple([(name, (number,)) for number in numbers])


class GoingCase(unittest.TestCase):
    def ask(self, schema, store, name, key):
        self.assertIs(is_schema(schema), True, schema)
        self.assertIs(is_store(schema, store), True, store)
        before = copy.deepcopy((schema, store, name, key))
        try:
            return going(schema, store, name, key)
        finally:
            self.assertEqual((schema, store, name, key), before)

    def told(self, schema, store, name, key, gone, gaps=()):
        for k in range(2):
            self.assertEqual(self.ask(schema, store, name, key), (gone, gaps))

    def refused(self, error, schema, store, name, key):
        for k in range(2):
            with self.assertRaises(DealError) as caught:
                self.ask(schema, store, name, key)
            self.assertIs(type(caught.exception), error)
            self.assertEqual(caught.exception.at, 0)


class Alone(GoingCase):
    """4.2: itself, and NoRow."""

    schema = (table("a", refers("x", "a", "along")), table("b"))
    store = (((1, None, None), (2, None, 1), (3, 5, None)), ((1, None, None),))

    def test_a_row_to_which_none_refers(self):
        for number in (1, 2, 3):
            self.told(self.schema, self.store, "a", (number,), places("a", number))

    def test_other_tables_with_the_same_key(self):
        self.told(self.schema, self.store, "b", (1,), places("b", 1))

    def test_no_row(self):
        for name, key in (("a", (4,)), ("a", (0,)), ("a", (5,)), ("b", (2,)), ("a", (True,))):
            self.refused(NoRow, self.schema, self.store, name, key)
        self.refused(NoRow, self.schema, ((), ()), "a", (1,))

    def test_no_row_though_others_refer_to_it(self):
        # 5 is not there: the third row refers to it by a rule, and yet there is nothing to drop.
        for way in ("along", "stop", "gap", "late"):
            self.refused(NoRow, (table("a", refers("x", "a", way)), table("b")), self.store, "a", (5,))


class Along(GoingCase):
    """4.2: rows that go along."""

    chain = (table("a", refers("x", "a", "along")),)

    def test_a_row_that_refers_goes_along(self):
        self.told(self.chain, (((1, None, None), (2, 1, None), (3, None, None), (4, 1, None)),), "a", (1,),
                  places("a", 1, 2, 4))

    def test_what_it_refers_to_stays(self):
        self.told(self.chain, (((1, None, None), (2, 1, None)),), "a", (2,), places("a", 2))

    def test_over_several_rows(self):
        rows = ((1, 2, None), (2, 3, None), (3, None, None), (4, 1, None), (5, 4, None), (6, 6, None))
        self.told(self.chain, (rows,), "a", (3,), places("a", 1, 2, 3, 4, 5))
        self.told(self.chain, (rows,), "a", (1,), places("a", 1, 4, 5))

    def test_to_itself(self):
        self.told(self.chain, (((1, 1, None), (2, None, None)),), "a", (1,), places("a", 1))
        self.told(self.chain, (((1, 1, None), (2, 1, None)),), "a", (1,), places("a", 1, 2))

    def test_in_a_circle(self):
        rows = ((1, 3, None), (2, 1, None), (3, 2, None), (4, 5, None), (5, 4, None))
        for number in (1, 2, 3):
            self.told(self.chain, (rows,), "a", (number,), places("a", 1, 2, 3))
        self.told(self.chain, (rows,), "a", (4,), places("a", 4, 5))

    def test_over_several_tables(self):
        schema = (table("a", refers("x", "c", "along")), table("b", refers("y", "a", "along")),
                  table("c"), table("d", refers("x", "b", "along"), refers("y", "c", "along")))
        store = (((1, 7, None), (2, 8, None)), ((1, None, 1), (2, 5, 2), (3, None, 1)),
                 ((7, None, None), (8, None, None)),
                 ((1, 3, None), (2, 2, None), (3, None, 7), (4, None, 8), (5, 2, 7)))
        self.told(schema, store, "c", (7,), places("a", 1) + places("b", 1, 3) + places("c", 7) + places("d", 1, 3, 5))
        self.told(schema, store, "c", (8,), places("a", 2) + places("b", 2) + places("c", 8) + places("d", 2, 4, 5))
        self.told(schema, store, "b", (2,), places("b", 2) + places("d", 2, 5))

    def test_in_a_circle_of_tables(self):
        schema = (table("z", refers("x", "a", "along")), table("a", refers("x", "z", "along")))
        store = (((1, 1, None), (2, 9, None)), ((1, 2, None), (9, 1, None)))
        self.told(schema, store, "z", (1,), places("a", 1, 9) + places("z", 1, 2))

    def test_by_one_of_two_rules(self):
        schema = (table("a", refers("x", "a", "along"), refers("y", "a", "along")),)
        rows = ((1, None, None), (2, None, 1), (3, 1, None), (4, 1, 1), (5, 2, None), (6, None, None))
        self.told(schema, (rows,), "a", (1,), places("a", 1, 2, 3, 4, 5))

    def test_a_gap_refers_to_none(self):
        schema = (("p", (("m", "whole", False), ("n", "text", False), ("x", "whole", True), ("y", "text", True)),
                   ("n", "m"), (("refers", ("y", "x"), "p", "along"),)),)
        rows = ((1, "a", None, None), (2, "a", 1, "a"), (3, "a", 1, None), (4, "a", None, "a"), (5, "a", 5, "b"))
        self.told(schema, (rows,), "p", ("a", 1), (("p", ("a", 1)), ("p", ("a", 2))))

    def test_a_long_chain(self):
        rows = tuple([(k, k - 1 if k > -999 else None, None) for k in range(-999, 1000)])
        self.assertEqual(self.ask(self.chain, (rows,), "a", (-999,)), (places("a", *range(-999, 1000)), ()))


class Gaps(GoingCase):
    """4.2: rows that get gaps."""

    schema = (table("a", refers("x", "a", "along"), refers("y", "a", "gap")),)

    def test_a_row_that_refers_gets_a_gap(self):
        self.told(self.schema, (((1, None, None), (2, None, 1), (3, None, 2), (4, None, 1)),), "a", (1,),
                  places("a", 1),
                  places("a", 2, 4))

    def test_a_row_that_would_get_gaps_but_goes(self):
        self.told(self.schema, (((1, None, None), (2, 1, 1), (3, None, 2)),), "a", (1,), places("a", 1, 2),
                  places("a", 3))

    def test_the_row_itself_gets_none(self):
        self.told(self.schema, (((1, None, 1), (2, None, 1)),), "a", (1,), places("a", 1), places("a", 2))

    def test_in_a_circle_of_those_that_go(self):
        self.told(self.schema, (((1, 2, 2), (2, 1, 1), (3, None, 1)),), "a", (2,), places("a", 1, 2), places("a", 3))

    def test_what_refers_to_one_with_gaps_stays_as_it_is(self):
        self.told(self.schema, (((1, None, None), (2, None, 1), (3, 2, None), (4, None, 3)),), "a", (1,),
                  places("a", 1),
                  places("a", 2))

    def test_of_each_that_goes_over_several_tables(self):
        schema = (table("z", refers("x", "m", "gap"), refers("y", "m", "gap")), table("m", refers("x", "m", "along")),
                  table("b", refers("y", "m", "gap")))
        store = (((1, 1, None), (2, None, 2), (3, 3, 3), (4, 4, 1)), ((1, None, None), (2, 1, None), (3, None, None)),
                 ((5, None, 1), (6, 1, None), (7, None, 2)))
        self.told(schema, store, "m", (1,), places("m", 1, 2), places("b", 5, 7) + places("z", 1, 2, 4))

    def test_a_row_is_told_once_though_two_rules_put_gaps(self):
        schema = (table("a", refers("x", "a", "gap"), refers("y", "a", "gap")),)
        self.told(schema, (((1, None, None), (2, 1, 1)),), "a", (1,), places("a", 1), places("a", 2))


class Stops(GoingCase):
    """4.2: Held, and late."""

    schema = (table("a", refers("x", "a", "along"), refers("y", "a", "stop")),)

    def test_held_by_a_row_that_stays(self):
        self.refused(Held, self.schema, (((1, None, None), (2, None, 1)),), "a", (1,))

    def test_not_held_by_a_row_that_goes_too(self):
        self.told(self.schema, (((1, None, None), (2, 1, 1), (3, 2, 1)),), "a", (1,), places("a", 1, 2, 3))

    def test_not_held_by_itself(self):
        self.told(self.schema, (((1, None, 1), (2, None, None)),), "a", (1,), places("a", 1))

    def test_held_by_a_row_that_refers_to_one_that_goes_along(self):
        self.refused(Held, self.schema, (((1, None, None), (2, 1, None), (3, None, 2)),), "a", (1,))

    def test_held_by_one_of_several(self):
        self.refused(Held, self.schema, (((1, None, None), (2, 1, 1), (3, None, 1), (4, 1, 1)),), "a", (1,))

    def test_not_held_by_what_it_refers_to(self):
        self.told(self.schema, (((1, None, None), (2, None, 1)),), "a", (2,), places("a", 2))

    def test_not_held_by_gaps(self):
        self.told(self.schema, (((1, None, None), (2, None, None)),), "a", (1,), places("a", 1))

    def test_held_by_a_row_that_would_get_gaps(self):
        schema = (table("a", refers("x", "a", "gap"), refers("x", "a", "stop")),)
        self.refused(Held, schema, (((1, None, None), (2, 1, None)),), "a", (1,))

    def test_held_over_tables(self):
        schema = (table("a"), table("b", refers("x", "a", "along")), table("c", refers("x", "b", "stop")))
        held = (((1, None, None),), ((1, 1, None),), ((5, 1, None),))
        self.refused(Held, schema, held, "a", (1,))
        self.refused(Held, schema, held, "b", (1,))
        self.told(schema, held, "c", (5,), places("c", 5))
        self.told(schema, (((1, None, None),), ((1, None, None),), ((5, 1, None),)), "a", (1,), places("a", 1))

    def test_no_row_ahead_of_held(self):
        self.refused(NoRow, self.schema, (((2, None, 1),),), "a", (1,))

    def test_late_holds_nothing_and_takes_nothing_along(self):
        schema = (table("a", refers("x", "a", "late")), table("b", refers("x", "a", "late"), refers("y", "a", "gap")))
        store = (((1, 1, None), (2, 1, None)), ((1, 1, None), (2, 1, 1)))
        self.told(schema, store, "a", (1,), places("a", 1), places("b", 2))


class AllKinds(GoingCase):
    """4.2, 0.2 (d): of all kinds of stores."""

    def asked(self, schema, store, name, key):
        try:
            return going(schema, store, name, key)
        except (NoRow, Held) as error:
            return type(error).__name__

    def test_against_all_rows_looked_at_in_turn(self):
        rolled = dice(51)
        seen = {}
        for k in range(500):
            schema = made_schema(rolled)
            store = made_store(rolled, schema)
            for home, row in every_row(schema, store):
                key = key_of(home, row)
                told = self.asked(schema, store, home[0], key)
                self.assertEqual(told, plain_going(schema, store, home[0], key), (schema, store, home[0], key))
                seen[told if isinstance(told, str) else (len(told[0]) > 2, len(told[1]) > 0)] = True
        self.assertEqual(len(seen), 5)

    def test_it_is_just_what_happens_when_the_row_is_dropped(self):
        many = 0
        for schema, store, deed in made_cases(52, 400, 5):
            if deed[0] == "drop":
                told = self.asked(schema, store, deed[1], deed[2])
                if isinstance(told, str):
                    self.assertRaises(NoRow if told == "NoRow" else Held, done, schema, store, deed)
                else:
                    many += self.dropped(schema, store, deed, told)
        self.assertGreater(many, 300)

    def dropped(self, schema, store, deed, told):
        try:
            behind = done(schema, store, deed)
        except DealError:
            return 0
        ahead = {(home[0], key_of(home, row)): row for home, row in every_row(schema, store)}
        left = {(home[0], key_of(home, row)): row for home, row in every_row(schema, behind)}
        self.assertEqual(told[0], tuple(sorted([place for place in ahead if place not in left])))
        self.assertEqual(told[1], tuple(sorted([place for place in left if left[place] != ahead[place]])))
        gone = [(home, row) for home, row in every_row(schema, store) if (home[0], key_of(home, row)) in told[0]]
        for home, row in every_row(schema, behind):
            for way in ("along", "gap", "stop"):
                self.assertEqual(refers_into(home, row, way, gone), [])
        return 1


if __name__ == "__main__":
    unittest.main()
