import unittest

from dealtables.breaking import is_good
from dealtables.coming import back_from, thinned
from dealtables.dealing import deal
from dealtables.errors import BadCheck, DealError, Held, NoMark, NoRef, NoRow, Twice
from dealtables.keepers import Keeper
from dealtables.logs import written_base, written_deal
from dealtables.schemas import store_without_rows
from tests.making import dice, made_deal, made_schema
from tests.small import refers, row, table

SCHEMA = (
    table("b", refers("y", "b", "late")),
    table("a", ("check", ("not", ("is", "y", 13))), refers("x", "b", "stop"), ("unlike", ("s",))),
)
DEALS = (
    (("add", "b", row(1)), ("add", "b", row(2, s="q"))),
    (),
    (("mark", "m"), ("add", "a", row(1, 1, 1, "s")), ("back", "m"), ("add", "a", row(2, 2))),
    (("set", "a", (2,), (("x", 1), ("s", "w"))), ("drop", "b", (2,))),
)
# One behind the other, from a store without rows on.
STORES = (
    ((), ()),
    ((row(1), row(2, s="q")), ()),
    ((row(1), row(2, s="q")), ()),
    ((row(1), row(2, s="q")), (row(2, 2),)),
    ((row(1),), (row(2, 1, None, "w"),)),
)


class KeeperCase(unittest.TestCase):
    def keeper(self, many=len(DEALS)):
        keeper = Keeper(SCHEMA)
        for deeds in DEALS[:many]:
            self.assertIsNone(keeper.deal(deeds))
        return keeper

    def log(self, many):
        return "".join([written_deal(deeds) for deeds in DEALS[:many]])

    def holds(self, keeper, store, log, schema=SCHEMA):
        """Whether the keeper has this store and this log, asked twice."""
        for turn in range(2):
            self.assertEqual(repr(keeper.store()), repr(store))
            self.assertEqual(keeper.log(), log)
            self.assertIs(type(keeper.log()), str)
        self.assertEqual(back_from(schema, log), (store, len(log)))


class Deals(KeeperCase):
    """8.1: deal, store, log."""

    def test_a_new_one(self):
        self.holds(Keeper(SCHEMA), ((), ()), "")
        self.holds(Keeper((table("a"),)), ((),), "", (table("a"),))

    def test_deals_are_done_and_noted(self):
        for many in range(len(DEALS) + 1):
            self.holds(self.keeper(many), STORES[many], self.log(many))

    def test_a_log_as_it_is_written(self):
        keeper = Keeper(SCHEMA)
        keeper.deal(())
        keeper.deal((("add", "b", row(1, s="")),))
        self.assertEqual(keeper.log()[:-5], "deal\nend 5983\ndeal\nadd b 1 ? ? '\nend ")

    def test_refused_deals_change_nothing_and_are_not_noted(self):
        for error, at, deeds in (
                (NoRow, 0, (("drop", "a", (9,)),)), (NoRow, 1, (("add", "b", row(5)), ("set", "a", (9,), (("x", 1),)))),
                (Held, 0, (("drop", "b", (1,)),)), (Twice, 0, (("add", "b", row(1)),)),
                (Twice, 2, (("add", "b", row(5)), ("mark", "m"), ("add", "a", row(5, s="w")))),
                (BadCheck, 0, (("set", "a", (2,), (("y", 13),)),)), (NoRef, 0, (("add", "a", row(5, 5)),)),
                (NoRef, 1, (("add", "b", row(5, None, 9)),)), (NoMark, 1, (("add", "b", row(5)), ("back", "m")))):
            keeper = self.keeper()
            for turn in range(2):
                with self.assertRaises(DealError) as caught:
                    keeper.deal(deeds)
                self.assertIs(type(caught.exception), error)
                self.assertEqual(caught.exception.at, at)
                self.holds(keeper, STORES[4], self.log(4))
            self.assertIs(keeper.undo(), True)
            self.holds(keeper, STORES[3], self.log(3))

    def test_marks_do_not_last_beyond_their_deal(self):
        keeper = self.keeper(3)
        self.assertRaises(NoMark, keeper.deal, (("back", "m"),))

    def test_what_is_handed_in_is_not_changed(self):
        ahead = repr((SCHEMA, DEALS))
        keeper = self.keeper()
        keeper.thin()
        keeper.undo()
        keeper.stop(3)
        self.assertEqual(repr((SCHEMA, DEALS)), ahead)

    def test_a_store_that_was_told_stays_as_it_is(self):
        keeper = self.keeper(3)
        store, log = keeper.store(), keeper.log()
        keeper.deal(DEALS[3])
        keeper.thin()
        keeper.stop(0)
        self.assertEqual((store, log), (STORES[3], self.log(3)))


class Thins(KeeperCase):
    """8.1: thin."""

    def test_the_log_becomes_its_base_alone(self):
        for many in range(len(DEALS) + 1):
            keeper = self.keeper(many)
            self.assertIsNone(keeper.thin())
            self.holds(keeper, STORES[many], written_base(SCHEMA, STORES[many]))
            self.assertEqual(keeper.log(), thinned(SCHEMA, self.log(many)))

    def test_twice(self):
        keeper = self.keeper()
        keeper.thin()
        keeper.thin()
        self.holds(keeper, STORES[4], written_base(SCHEMA, STORES[4]))

    def test_deals_behind_it(self):
        keeper = self.keeper(3)
        keeper.thin()
        keeper.deal(DEALS[3])
        self.holds(keeper, STORES[4], written_base(SCHEMA, STORES[3]) + written_deal(DEALS[3]))
        keeper.thin()
        self.holds(keeper, STORES[4], written_base(SCHEMA, STORES[4]))


class Stops(KeeperCase):
    """8.1: stop."""

    def stopped(self, keeper, many):
        expected = back_from(SCHEMA, keeper.log()[:many])
        log = keeper.log()[:expected[1]]
        self.assertIsNone(keeper.stop(many))
        self.holds(keeper, expected[0], log)

    def test_at_every_place(self):
        log = self.log(4)
        for many in range(len(log) + 1):
            keeper = self.keeper()
            self.stopped(keeper, many)
            whole = max([number for number in range(5) if len(self.log(number)) <= many])
            self.holds(keeper, STORES[whole], self.log(whole))
            self.assertIs(keeper.undo(), False)
            self.holds(keeper, STORES[whole], self.log(whole))

    def test_at_every_place_of_a_log_with_a_base(self):
        base = written_base(SCHEMA, STORES[1])
        for many in range(len(base + self.log(4)) + 1):
            keeper = self.keeper(1)
            keeper.thin()
            for deeds in DEALS[1:]:
                keeper.deal(deeds)
            self.stopped(keeper, many)
            if many < len(base):
                self.holds(keeper, ((), ()), "")
            self.assertIs(keeper.undo(), False)

    def test_nought_and_beyond_its_end(self):
        keeper = self.keeper()
        for more in (0, 1, 100, 10 ** 6):
            keeper.stop(len(keeper.log()) + more)
            self.holds(keeper, STORES[4], self.log(4))
        keeper.stop(0)
        self.holds(keeper, ((), ()), "")
        keeper.stop(0)
        keeper.stop(5)
        self.holds(keeper, ((), ()), "")

    def test_below_nought(self):
        keeper = self.keeper()
        keeper.stop(-1)
        self.holds(keeper, ((), ()), "")

    def test_deals_behind_a_stop(self):
        keeper = self.keeper()
        keeper.stop(len(self.log(3)) + 7)
        keeper.deal(DEALS[3])
        self.holds(keeper, STORES[4], self.log(4))
        keeper.stop(len(self.log(1)) - 1)
        self.assertRaises(NoRef, keeper.deal, (("add", "a", row(5, 1)),))
        keeper.deal(DEALS[0])
        self.holds(keeper, STORES[1], self.log(1))
        self.assertIs(keeper.undo(), True)
        self.holds(keeper, STORES[0], "")
        self.assertIs(keeper.undo(), False)

    def test_one_stop_behind_another(self):
        keeper = self.keeper()
        for many in (4, 3, 2, 1, 0):
            keeper.stop(len(self.log(many)))
            self.holds(keeper, STORES[many], self.log(many))

    def test_a_stop_of_an_empty_log(self):
        keeper = Keeper(SCHEMA)
        self.assertIsNone(keeper.stop(0))
        self.assertIsNone(keeper.stop(9))
        self.holds(keeper, ((), ()), "")

    def test_worths_beyond_the_bounds_come_back_too(self):
        keeper = Keeper(SCHEMA)
        keeper.deal((("add", "b", row(5000)),))
        keeper.stop(len(keeper.log()))
        self.assertEqual(keeper.store(), ((row(5000),), ()))


class Undos(KeeperCase):
    """8.1: undo."""

    def test_one_by_one_and_then_none(self):
        keeper = self.keeper()
        for many in (3, 2, 1, 0):
            self.assertIs(keeper.undo(), True)
            self.holds(keeper, STORES[many], self.log(many))
        for turn in range(3):
            self.assertIs(keeper.undo(), False)
            self.holds(keeper, ((), ()), "")

    def test_of_a_new_one(self):
        self.assertIs(Keeper(SCHEMA).undo(), False)

    def test_deals_behind_it(self):
        keeper = self.keeper()
        keeper.undo()
        keeper.undo()
        keeper.deal(DEALS[2])
        keeper.deal(DEALS[3])
        self.holds(keeper, STORES[4], self.log(4))
        self.assertIs(keeper.undo(), True)
        self.holds(keeper, STORES[3], self.log(3))

    def test_down_to_the_last_base(self):
        for many in range(4):
            keeper = self.keeper(many)
            keeper.thin()
            base = written_base(SCHEMA, STORES[many])
            self.assertIs(keeper.undo(), False)
            for deeds in DEALS[many:]:
                keeper.deal(deeds)
            for left in range(3, many - 1, -1):
                self.assertIs(keeper.undo(), True)
                self.holds(keeper, STORES[left], base + "".join([written_deal(deeds) for deeds in DEALS[many:left]]))
            self.assertIs(keeper.undo(), False)
            self.holds(keeper, STORES[many], base)

    def test_down_to_the_last_stop(self):
        for many in range(4):
            keeper = self.keeper()
            keeper.stop(len(self.log(many)))
            self.assertIs(keeper.undo(), False)
            for deeds in DEALS[many:]:
                keeper.deal(deeds)
            for left in range(3, many - 1, -1):
                self.assertIs(keeper.undo(), True)
                self.holds(keeper, STORES[left], self.log(left))
            self.assertIs(keeper.undo(), False)
            self.holds(keeper, STORES[many], self.log(many))

    def test_a_stop_beyond_the_end_is_a_stop(self):
        keeper = self.keeper()
        keeper.stop(10 ** 6)
        self.assertIs(keeper.undo(), False)
        self.holds(keeper, STORES[4], self.log(4))

    def test_a_deal_without_deeds_is_one(self):
        keeper = self.keeper(2)
        self.assertIs(keeper.undo(), True)
        self.holds(keeper, STORES[1], self.log(1))

    def test_behind_thin_nothing_of_what_was_ahead_comes_again(self):
        keeper = self.keeper()
        keeper.undo()
        keeper.thin()
        self.assertIs(keeper.undo(), False)
        self.holds(keeper, STORES[3], written_base(SCHEMA, STORES[3]))


class SideBySide(KeeperCase):
    """0.3: two keepers have nothing in common."""

    def test_two_of_one_schema(self):
        one, other = Keeper(SCHEMA), Keeper(SCHEMA)
        one.deal(DEALS[0])
        self.holds(other, ((), ()), "")
        other.deal(DEALS[1])
        one.deal(DEALS[1])
        one.thin()
        self.holds(other, ((), ()), written_deal(()))
        self.assertIs(other.undo(), True)
        self.assertIs(other.undo(), False)
        self.holds(one, STORES[2], written_base(SCHEMA, STORES[2]))
        other.deal(DEALS[0])
        one.stop(0)
        self.holds(other, STORES[1], self.log(1))
        self.holds(one, ((), ()), "")

    def test_two_of_two_schemas(self):
        one, other = Keeper((table("a"),)), Keeper((table("b"), table("a")))
        one.deal((("add", "a", row(1)),))
        other.deal((("add", "b", row(2)),))
        self.assertEqual((one.store(), other.store()), (((row(1),),), ((row(2),), ())))


class AllKinds(KeeperCase):
    """8.1, 0.2 (c) and (h): against a list of the deals since the last base or stop."""

    def test_of_all_kinds(self):
        rolled = dice(121)
        seen = {}
        for k in range(150):
            schema = made_schema(rolled)
            self.keep(rolled, schema, Keeper(schema), seen)
        for kind in (("deal", True), ("deal", False), ("thin", True), ("stop", True), ("stop", False), ("undo", True),
                     ("undo", False)):
            self.assertGreater(seen.get(kind, 0), 20, kind)

    def keep(self, rolled, schema, keeper, seen):
        ahead = ""
        deals = []
        for turn in range(15):
            way = rolled.choice(("deal", "deal", "deal", "deal", "thin", "stop", "undo", "undo"))
            went_well = True
            if way == "deal":
                deeds = made_deal(rolled, schema, keeper.store(), 4)
                try:
                    expected = deal(schema, keeper.store(), deeds)
                except DealError as error:
                    self.assertRaises(type(error), keeper.deal, deeds)
                    went_well = False
                else:
                    keeper.deal(deeds)
                    deals.append(deeds)
                    self.assertEqual(keeper.store(), expected)
            elif way == "thin":
                ahead, deals = written_base(schema, keeper.store()), []
                keeper.thin()
            elif way == "stop":
                log = keeper.log()
                many = rolled.randint(0, len(log) + 5)
                keeper.stop(many)
                ahead, deals = log[:back_from(schema, log[:many])[1]], []
                went_well = ahead == log
            else:
                went_well = bool(deals)
                self.assertIs(keeper.undo(), bool(deals))
                deals = deals[:-1]
            log = ahead + "".join([written_deal(deeds) for deeds in deals])
            self.holds(keeper, back_from(schema, log)[0], log, schema)
            self.assertIs(is_good(schema, keeper.store()), True)
            seen[way, went_well] = seen.get((way, went_well), 0) + 1

    def test_the_store_without_rows(self):
        for schema in (SCHEMA, SCHEMA[:1], SCHEMA + (table("c"), table("d"))):
            self.assertEqual(Keeper(schema).store(), store_without_rows(schema))
            self.assertEqual(Keeper(schema).store(), ((),) * len(schema))


if __name__ == "__main__":
    unittest.main()
