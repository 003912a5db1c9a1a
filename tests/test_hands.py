import unittest

from dealtables.dealing import deal
from dealtables.errors import Clash, NoRow
from dealtables.hands import apart, both, touched
from tests.asked import AskedCase
from tests.making import deal_or_none, dice, made_deal, made_good_store, made_schema
from tests.plainly import every_row, plain_deal, plain_key
from tests.small import PAIRS, refers, row, table

SCHEMA = (
    table("b", ("unlike", ("s",))),
    table("a", ("check", ("not", ("below", "x", "y"))), refers("x", "b", "stop")),
    table("c", refers("x", "b", "along"), refers("y", "c", "gap")),
)
STORE = (
    (row(1), row(2, s="q"), row(3)),
    (row(1, 1), row(2)),
    (row(1, 3), row(2, None, 1), row(5)),
)


class BothCase(AskedCase):
    def comes(self, store, one, other, schema=SCHEMA, ahead=STORE):
        self.told(store, both, schema, ahead, one, other)
        self.told(store, both, schema, ahead, other, one)

    def clashes(self, how, one, other, schema=SCHEMA, ahead=STORE):
        for deeds in (one, other):
            self.assertIsNotNone(deal_or_none(schema, ahead, deeds), deeds)
        self.refused(Clash, 0, both, schema, ahead, one, other)
        self.assertEqual(self.answer(both, schema, ahead, one, other)[3], how)


class Both(BothCase):
    """9.1: both."""

    def test_no_deeds(self):
        self.comes(STORE, (), ())
        self.comes((STORE[0], STORE[1] + (row(7),), STORE[2]), (), (("add", "a", row(7)),))

    def test_other_rows(self):
        self.comes(((row(1), row(2, s="q"), row(3, 5)), (row(1, 1), row(2, 1), row(7)), STORE[2]),
                   (("add", "a", row(7)), ("set", "b", (3,), (("x", 5),))), (("set", "a", (2,), (("x", 1),)),))

    def test_other_columns_of_one_row(self):
        self.comes((STORE[0], (row(1, 1), row(2, 2, None, "z")), STORE[2]),
                   (("set", "a", (2,), (("x", 2),)),), (("set", "a", (2,), (("s", "z"),)),))

    def test_the_same_change(self):
        deeds = (("set", "a", (2,), (("x", 2),)),)
        self.comes((STORE[0], (row(1, 1), row(2, 2)), STORE[2]), deeds, deeds)

    def test_a_deal_that_comes_to_nothing(self):
        nothing = (("add", "a", row(7)), ("drop", "a", (7,)))
        self.comes((STORE[0], STORE[1] + (row(8),), STORE[2]), nothing, (("add", "a", row(8)),))
        self.comes(STORE, nothing, nothing)

    def test_gone_along_and_given_gaps(self):
        self.comes((STORE[0][:2], STORE[1], (row(2), row(5, None, 5))), (("drop", "b", (3,)),),
                   (("set", "c", (5,), (("y", 5),)),))

    def test_marks_are_each_deal_s_own(self):
        self.comes((STORE[0], STORE[1] + (row(7), row(8)), STORE[2]),
                   (("mark", "m"), ("add", "a", row(7))), (("add", "a", row(8)), ("mark", "m"), ("back", "m")))


class Clashes(BothCase):
    """9.1: Clash, with how."""

    def test_other_can_not_be_done_behind_one(self):
        # Behind other one can be done: a row that was changed can still be dropped.
        self.clashes("one", (("drop", "b", (2,)),), (("set", "b", (2,), (("x", 5),)),))
        self.clashes("one", (("drop", "c", (2,)),), (("set", "c", (2,), (("x", 1),)),))

    def test_one_can_not_be_done_behind_other(self):
        self.clashes("other", (("set", "b", (2,), (("x", 5),)),), (("drop", "b", (2,)),))
        self.clashes("other", (("set", "c", (2,), (("x", 1),)),), (("drop", "c", (2,)),))

    def test_both_orders_come_to_two_stores(self):
        self.clashes("both", (("set", "a", (2,), (("x", 2),)),), (("set", "a", (2,), (("x", 3),)),))
        self.clashes("both", (("set", "a", (2,), (("s", ""),)),), (("set", "a", (2,), (("s", None), ("x", 1))),
                                                                  ("set", "a", (2,), (("s", "z"),))))

    def test_one_where_neither_order_can_be_done(self):
        for one, other in ((("add", "a", row(7)), ("add", "a", row(7, 1))), (("drop", "a", (1,)), ("drop", "a", (1,))),
                           (("drop", "b", (2,)), ("add", "a", row(7, 2))),
                           (("set", "b", (1,), (("s", "z"),)), ("set", "b", (3,), (("s", "z"),))),
                           (("set", "a", (2,), (("x", 1),)), ("set", "a", (2,), (("y", 2),)))):
            self.clashes("one", (one,), (other,))
            self.clashes("one", (other,), (one,))

    def test_a_late_rule_broken_by_both_together(self):
        schema = (table("a", refers("x", "a", "late")),)
        ahead = ((row(1), row(2)),)
        self.clashes("one", (("drop", "a", (1,)),), (("set", "a", (2,), (("x", 1),)),), schema, ahead)
        self.clashes("one", (("set", "a", (2,), (("x", 1),)),), (("drop", "a", (1,)),), schema, ahead)

    def test_the_place_of_what_is_refused_is_not_told(self):
        one = (("add", "a", row(8)), ("add", "a", row(7)))
        self.clashes("one", one, (("add", "a", row(9)), ("add", "a", row(7, 1))))


class Touched(AskedCase):
    """9.1: touched."""

    def touches(self, places, *deeds, schema=SCHEMA, store=STORE):
        self.told(places, touched, schema, store, deeds)

    def test_none(self):
        self.touches(())
        self.touches((), ("mark", "m"), ("back", "m"))

    def test_rows_added_dropped_and_changed(self):
        self.touches((("a", (7,)),), ("add", "a", row(7)))
        self.touches((("a", (2,)),), ("drop", "a", (2,)))
        self.touches((("a", (2,)),), ("set", "a", (2,), (("s", ""),)))

    def test_rows_gone_along_and_given_gaps(self):
        self.touches((("b", (3,)), ("c", (1,)), ("c", (2,))), ("drop", "b", (3,)))

    def test_rising(self):
        self.touches((("a", (-7,)), ("a", (2,)), ("a", (10,)), ("b", (-5,)), ("b", (3,)), ("c", (5,))),
                     ("drop", "c", (5,)), ("add", "b", row(-5)), ("add", "a", row(10)), ("set", "b", (3,), (("x", 1),)),
                     ("set", "a", (2,), (("x", 3),)), ("add", "a", row(-7)))

    def test_keys_of_two_columns(self):
        store = (((5, None, ""), (1, None, "a"), (3, None, "a")),)
        self.touches((("p", ("", 5)), ("p", ("a", -1)), ("p", ("a", 3)), ("p", ("b", 0))), ("add", "p", (0, None, "b")),
                     ("drop", "p", ("a", 3)), ("add", "p", (-1, 1, "a")), ("set", "p", ("", 5), (("v", 1),)),
                     schema=(PAIRS,), store=store)

    def test_added_and_dropped_again(self):
        self.touches((), ("add", "a", row(7)), ("drop", "a", (7,)))
        self.touches((), ("drop", "a", (2,)), ("add", "a", row(2)))
        self.touches((("a", (2,)),), ("drop", "a", (2,)), ("add", "a", row(2, 1)))

    def test_changed_and_changed_back(self):
        self.touches((), ("set", "a", (2,), (("s", "z"),)), ("set", "a", (2,), (("s", None),)))
        self.touches((), ("set", "a", (2,), (("x", None),)))
        self.touches((), ("mark", "m"), ("set", "a", (2,), (("s", "z"),)), ("back", "m"))
        self.touches((("a", (2,)),), ("set", "a", (2,), (("s", "z"),)), ("set", "a", (2,), (("s", ""),)))

    def test_the_same_key_in_two_tables(self):
        self.touches((("a", (7,)), ("b", (7,))), ("add", "b", row(7)), ("add", "a", row(7)))

    def test_a_deal_that_can_not_be_done(self):
        self.refused(NoRow, 1, touched, SCHEMA, STORE, (("mark", "m"), ("drop", "a", (9,))))


class Apart(AskedCase):
    """9.1: apart."""

    def are_apart(self, expected, one, other):
        self.told(expected, apart, SCHEMA, STORE, one, other)
        self.told(expected, apart, SCHEMA, STORE, other, one)

    def test_true(self):
        self.are_apart(True, (), ())
        self.are_apart(True, (("add", "a", row(7)),), ())
        self.are_apart(True, (("add", "a", row(7)),), (("add", "a", row(8)),))
        self.are_apart(True, (("add", "a", row(7)),), (("add", "b", row(7)),))
        self.are_apart(True, (("add", "a", row(7)), ("drop", "a", (7,))), (("add", "a", row(7)),))

    def test_false(self):
        self.are_apart(False, (("add", "a", row(7)),), (("add", "a", row(7)),))
        self.are_apart(False, (("set", "a", (2,), (("x", 1),)),), (("set", "a", (2,), (("s", "z"),)),))
        self.are_apart(False, (("drop", "b", (3,)),), (("set", "c", (2,), (("s", "z"),)),))
        self.are_apart(False, (("drop", "b", (3,)), ("add", "a", row(7))), (("add", "a", row(8)), ("drop", "c", (1,))))

    def test_apart_and_clashing(self):
        # No row in common, and yet one drops what the other refers to.
        one, other = (("drop", "b", (2,)),), (("add", "a", row(7, 2)),)
        self.are_apart(True, one, other)
        self.refused(Clash, 0, both, SCHEMA, STORE, one, other)


class AllKinds(AskedCase):
    """9.1, 0.2 (i): of all kinds of stores and deals."""

    def made(self, seed, many):
        rolled = dice(seed)
        for k in range(many):
            schema = made_schema(rolled)
            store = made_good_store(rolled, schema)
            deals = [made_deal(rolled, schema, store, 3) for turn in range(4)]
            deals = [deeds for deeds in deals if deal_or_none(schema, store, deeds) is not None]
            for one, other in zip(deals, deals[1:]):
                yield schema, store, one, other

    def expected(self, schema, store, one, other):
        """The store, or how they clash."""
        other_last = plain_deal(schema, plain_deal(schema, store, one), other)
        one_last = plain_deal(schema, plain_deal(schema, store, other), one)
        if isinstance(other_last[0], str):
            return "one"
        if isinstance(one_last[0], str):
            return "other"
        return other_last if other_last == one_last else "both"

    def test_both_orders(self):
        seen = {}
        for schema, store, one, other in self.made(131, 700):
            expected = self.expected(schema, store, one, other)
            answer = self.answer(both, schema, store, one, other)
            if isinstance(expected, str):
                self.assertEqual(answer, ("refused", Clash, 0, expected))
            else:
                self.assertEqual(answer, ("told", expected))
                self.told(expected, both, schema, store, other, one)
                self.assertEqual(deal(schema, deal(schema, store, one), other), expected)
                self.assertEqual(deal(schema, deal(schema, store, other), one), expected)
            kind = expected if isinstance(expected, str) else (expected == store)
            seen[kind] = seen.get(kind, 0) + 1
        self.assertEqual(len(seen), 5)

    def test_rows_that_are_touched(self):
        seen = {}
        for schema, store, one, other in self.made(132, 150):
            sides = []
            for deeds in (one, other):
                behind = plain_deal(schema, store, deeds)
                ahead = [(home[0], plain_key(home, each), each) for home, each in every_row(schema, store)]
                left = [(home[0], plain_key(home, each), each) for home, each in every_row(schema, behind)]
                places = [triple[:2] for triple in ahead + left if triple not in ahead or triple not in left]
                self.told(tuple(sorted(set(places))), touched, schema, store, deeds)
                sides.append(set(places))
            self.told(not sides[0] & sides[1], apart, schema, store, one, other)
            seen[bool(sides[0] & sides[1])] = True
        self.assertEqual(len(seen), 2)


if __name__ == "__main__":
    unittest.main()
