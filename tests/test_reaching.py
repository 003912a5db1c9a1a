import unittest

from dealtables.breaking import breaks, is_good, key_of
from dealtables.dealing import deal
from dealtables.doing import done, going
from dealtables.errors import BadCheck, Held
from dealtables.reaching import finds, may_gap, may_go, may_hold, with_rule, without_rule
from dealtables.schemas import is_schema, is_store
from tests.asked import AskedCase
from tests.making import deal_or_none, dice, made_deal, made_good_store, made_rule, made_schema, made_store
from tests.plainly import every_row, is_broken, plain_key
from tests.small import PAIRS, refers, row, table


class ReachCase(AskedCase):
    def reached(self, schema, name, go, gap=(), hold=()):
        self.assertIs(is_schema(schema), True, schema)
        self.told(go, may_go, schema, name)
        self.told(gap, may_gap, schema, name)
        self.told(hold, may_hold, schema, name)


class Going(ReachCase):
    """6.2: may_go."""

    def test_itself_alone(self):
        self.reached((table("a"), table("b")), "a", ("a",))
        self.reached((table("a"),), "a", ("a",))

    def test_along(self):
        schema = (table("a"), table("b", refers("x", "a", "along")))
        self.reached(schema, "a", ("a", "b"))
        self.reached(schema, "b", ("b",))

    def test_over_several_tables_rising(self):
        schema = (table("z"), table("m", refers("x", "z", "along")), table("b", refers("y", "m", "along")),
                  table("a", refers("x", "b", "along")))
        self.reached(schema, "z", ("a", "b", "m", "z"))
        self.reached(schema, "m", ("a", "b", "m"))
        self.reached(schema, "b", ("a", "b"))
        self.reached(schema, "a", ("a",))

    def test_in_another_turn_of_the_tables(self):
        schema = (table("a", refers("x", "b", "along")), table("c"), table("b", refers("y", "d", "along")),
                  table("d", refers("x", "c", "along")))
        self.reached(schema, "c", ("a", "b", "c", "d"))

    def test_in_a_circle(self):
        schema = (table("c", refers("x", "a", "along")), table("a", refers("x", "b", "along")),
                  table("b", refers("x", "c", "along")), table("d", refers("x", "d", "along")))
        for name in ("a", "b", "c"):
            self.reached(schema, name, ("a", "b", "c"))
        self.reached(schema, "d", ("d",))

    def test_to_itself(self):
        self.reached((table("a", refers("x", "a", "along")), table("b")), "a", ("a",))

    def test_by_two_rules_and_on_two_ways_each_once(self):
        schema = (table("a"), table("b", refers("x", "a", "along"), refers("y", "a", "along")),
                  table("c", refers("x", "b", "along"), refers("y", "a", "along"), refers("x", "c", "along")))
        self.reached(schema, "a", ("a", "b", "c"))

    def test_a_rule_behind_others(self):
        schema = (table("a"), table("b", ("unlike", ("x",)), ("check", ("empty", "s")), refers("y", "a", "along")))
        self.reached(schema, "a", ("a", "b"))

    def test_references_of_two_columns(self):
        schema = (PAIRS, table("a", ("refers", ("s", "x"), "p", "along")))
        self.reached(schema, "p", ("a", "p"))


class GapsAndStops(ReachCase):
    """6.2: may_gap and may_hold."""

    def test_straight(self):
        schema = (table("a"), table("b", refers("x", "a", "gap")), table("c", refers("x", "a", "stop")))
        self.reached(schema, "a", ("a",), ("b",), ("c",))
        self.reached(schema, "b", ("b",))
        self.reached(schema, "c", ("c",))

    def test_to_a_table_reached_by_along(self):
        schema = (table("a"), table("b", refers("x", "a", "along")),
                  table("d", refers("x", "b", "gap")), table("c", refers("y", "b", "stop")))
        self.reached(schema, "a", ("a", "b"), ("d",), ("c",))
        self.reached(schema, "b", ("b",), ("d",), ("c",))

    def test_rising_and_each_once(self):
        schema = (table("m"), table("z", refers("x", "m", "gap"), refers("y", "m", "gap"), refers("x", "m", "stop")),
                  table("b", refers("x", "m", "stop"), refers("x", "m", "along"), refers("y", "m", "gap")),
                  table("a", refers("x", "m", "gap"), refers("y", "b", "gap"), refers("y", "b", "stop")))
        self.reached(schema, "m", ("b", "m"), ("a", "b", "z"), ("a", "b", "z"))
        self.reached(schema, "b", ("b",), ("a",), ("a",))

    def test_a_table_that_goes_itself(self):
        schema = (table("a", refers("x", "a", "gap"), refers("y", "a", "stop"), refers("k", "a", "along")),)
        self.reached(schema, "a", ("a",), ("a",), ("a",))

    def test_gap_and_stop_reach_no_further(self):
        schema = (table("a"), table("b", refers("x", "a", "gap")), table("c", refers("x", "b", "gap")),
                  table("d", refers("x", "b", "along")))
        self.reached(schema, "a", ("a",), ("b",))
        schema = (table("a"), table("b", refers("x", "a", "stop")), table("c", refers("x", "b", "stop")),
                  table("d", refers("x", "b", "along")))
        self.reached(schema, "a", ("a",), (), ("b",))

    def test_late_reaches_nothing(self):
        schema = (table("a", refers("x", "a", "late")), table("b", refers("x", "a", "late")),
                  table("c", refers("x", "b", "along")), table("d", refers("x", "c", "late"), refers("y", "b", "gap")))
        self.reached(schema, "a", ("a",))
        self.reached(schema, "b", ("b", "c"), ("d",))
        self.reached(schema, "c", ("c",))

    def test_what_it_refers_to_is_not_reached(self):
        schema = (table("a", refers("x", "b", "along")), table("b", refers("x", "c", "gap")),
                  table("c", refers("x", "d", "stop")), table("d"))
        self.reached(schema, "a", ("a",))


class NoRowOfAnyOther(ReachCase):
    """0.2 (g): no row of any other table ever goes, gets gaps or holds."""

    def test_all_kinds_of_stores(self):
        rolled = dice(91)
        seen = {}
        for k in range(300):
            schema = made_schema(rolled)
            store = made_store(rolled, schema)
            for home, each in every_row(schema, store):
                key = key_of(home, each)
                try:
                    told = going(schema, store, home[0], key)
                except Held:
                    self.assertNotEqual(may_hold(schema, home[0]), ())
                    seen["held"] = True
                else:
                    names = [tuple(sorted(set([place[0] for place in part]))) for part in told]
                    self.assertLessEqual(set(names[0]), set(may_go(schema, home[0])))
                    self.assertLessEqual(set(names[1]), set(may_gap(schema, home[0])))
                    seen[len(names[0]) > 1, names[0] == may_go(schema, home[0]), names[1] == may_gap(schema, home[0])] = True
        self.assertGreater(len(seen), 7)

    def test_those_that_are_told_can_go(self):
        """A row in each table, each with the key 1 and all columns 1: all that may go does."""
        rolled = dice(92)
        ways = ("along", "along", "gap", "late")
        for k in range(300):
            names = rolled.sample("abcd", rolled.randint(1, 4))
            schema = tuple([table(name, *[refers(rolled.choice("xy"), rolled.choice(names), rolled.choice(ways))
                                          for turn in range(rolled.randint(0, 3))]) for name in names])
            store = tuple([(row(1, 1, 1),) for name in names])
            for name in names:
                told = going(schema, store, name, (1,))
                self.assertEqual(tuple([place[0] for place in told[0]]), may_go(schema, name))
                left = [other for other in may_gap(schema, name) if other not in may_go(schema, name)]
                self.assertEqual([place[0] for place in told[1]], left)

    def test_in_deals_of_drops_alone(self):
        rolled = dice(93)
        many = 0
        for k in range(300):
            schema = made_schema(rolled)
            store = made_good_store(rolled, schema)
            drops = tuple([step for step in made_deal(rolled, schema, store) if step[0] == "drop"])
            behind = deal_or_none(schema, store, drops)
            if behind is not None:
                reached = [name for drop in drops for name in may_go(schema, drop[1]) + may_gap(schema, drop[1])]
                for home, ahead, left in zip(schema, store, behind):
                    if home[0] not in reached:
                        self.assertEqual(ahead, left)
                        many += bool(drops)
        self.assertGreater(many, 50)


RULES = (
    ("check", ("below", "x", "y")),
    ("unlike", ("s",)),
    ("unlike", ("x", "s")),
    refers("x", "a", "stop"),
    refers("y", "b", "late"),
    refers("x", "b", "along"),
    ("refers", ("x",), "a", "gap"),
)


class WithAndWithout(AskedCase):
    """6.3: with_rule and without_rule."""

    def test_each_kind_of_rule(self):
        schema = (table("a"), table("b", RULES[1]))
        for rule in RULES:
            self.told((table("a", rule), schema[1]), with_rule, schema, "a", rule)
            self.told((schema[0], table("b", RULES[1], rule)), with_rule, schema, "b", rule)
            self.assertIs(is_schema(with_rule(schema, "b", rule)), True)

    def test_behind_the_others_up_to_the_fifth(self):
        schema = (table("b"), table("a", *RULES[:2]))
        for many in range(3, 6):
            schema = self.ask(with_rule, schema, "a", RULES[many - 1])
            self.assertEqual(schema, (table("b"), table("a", *RULES[:many])))
            self.assertIs(is_schema(schema), many == 3)

    def test_the_same_rule_once_more(self):
        self.told((table("a", RULES[0], RULES[0]),), with_rule, (table("a", RULES[0]),), "a", RULES[0])

    def test_the_first_one_in_the_middle_and_the_last_taken_out(self):
        for many in range(1, 6):
            schema = (table("a", *RULES[:many]), table("b", *RULES[:2]))
            for number in range(many):
                self.told((table("a", *(RULES[:number] + RULES[number + 1:many])), schema[1]),
                          without_rule, schema, "a", number)
        self.told((schema[0], table("b", RULES[0])), without_rule, schema, "b", 1)

    def test_of_rules_alike_one_alone_is_taken_out(self):
        self.told((table("a", RULES[0], RULES[0]),), without_rule, (table("a", *(RULES[:1] * 3)),), "a", 1)

    def test_with_a_rule_and_without_it_again(self):
        rolled = dice(94)
        for k in range(300):
            schema = made_schema(rolled)
            home = rolled.choice(schema)
            rule = made_rule(rolled, home, schema)
            if rule is not None:
                more = with_rule(schema, home[0], rule)
                self.assertNotEqual(more, schema)
                self.told(schema, without_rule, more, home[0], len(home[3]))

    def test_breaks_takes_schemas_with_more_rules(self):
        rules = (("check", ("is", "x", 1)), ("unlike", ("y",)), ("check", ("is", "y", 1)), refers("x", "a", "stop"),
                 ("check", ("empty", "s")))
        schema = (table("a"),)
        for rule in rules:
            schema = with_rule(schema, "a", rule)
        store = ((row(1, 1, 1), row(2, 7, 1, "z"), row(3)),)
        self.told((("a", 0, (2,)), ("a", 1, (1,)), ("a", 1, (2,)), ("a", 3, (2,)), ("a", 4, (2,))),
                  breaks, schema, store)
        self.told((("a", 0, (2,)), ("a", 1, (2,)), ("a", 2, (2,))), breaks,
                  without_rule(without_rule(schema, "a", 1), "a", 1), store)

    def test_a_rule_more_is_kept_by_deeds(self):
        schema = (table("a", *(RULES[:1] * 3)),)
        more = with_rule(schema, "a", ("check", ("not", ("is", "s", "z"))))
        deed = ("add", "a", row(1, 1, 2, "z"))
        self.told(((row(1, 1, 2, "z"),),), done, schema, ((),), deed)
        self.refused(BadCheck, 0, done, more, ((),), deed)
        self.refused(BadCheck, 0, deal, more, ((),), (deed,))


class Finds(AskedCase):
    """6.3: finds."""

    schema = (table("b"), table("a", ("unlike", ("s",))), PAIRS)
    store = ((row(1), row(7)), (row(-4, 7, 1, "a"), row(0, 1, 7), row(2, 7, 2), row(3, 5), row(10, None, 5, "b")),
             ((1, None, "f"), (2, None, "f"), (1, None, "g")))

    def found(self, keys, name, rule):
        self.assertIs(is_schema(self.schema) and is_store(self.schema, self.store), True)
        self.told(keys, finds, self.schema, self.store, name, rule)

    def test_checks(self):
        self.found(((-4,), (2,)), "a", ("check", ("below", "x", "y")))
        self.found(((0,), (3,)), "a", ("check", ("is", "x", 7)))
        self.found((), "a", ("check", ("not", ("is", "x", 8))))

    def test_unlike(self):
        self.found(((-4,), (2,)), "a", ("unlike", ("x",)))
        self.found((), "a", ("unlike", ("y",)))
        self.found((), "a", ("unlike", ("x", "s")))
        self.found((("f", 1), ("f", 2)), "p", ("unlike", ("n",)))
        self.found((("f", 1), ("g", 1)), "p", ("unlike", ("m",)))
        self.found((), "p", ("unlike", ("n", "m")))

    def test_refers(self):
        for way in ("stop", "late", "along", "gap"):
            self.found(((3,),), "a", refers("x", "b", way))
            self.found(((2,), (10,)), "a", refers("y", "b", way))
            self.found(((-4,), (0,), (2,), (3,)), "a", refers("x", "a", way))
        self.found((), "a", refers("k", "a", "stop"))
        self.found((), "p", ("refers", ("v",), "a", "gap"))
        self.found((("f", 2),), "p", refers("m", "b", "stop"))
        self.found(((-4,),), "a", ("refers", ("s", "x"), "p", "gap"))

    def test_stores_without_rows(self):
        for rule in RULES:
            self.told((), finds, self.schema, ((), (), ()), "a", rule)

    def test_a_rule_that_is_there_already(self):
        self.found((), "a", ("unlike", ("s",)))
        schema = (table("a", ("check", ("is", "x", 1))),)
        self.told(((2,),), finds, schema, ((row(1, 1), row(2, 2)),), "a", schema[0][3][0])

    def test_keys_alone_of_this_rule(self):
        schema = (table("a", ("check", ("is", "x", 1)), ("unlike", ("y",)), refers("y", "a", "gap")),)
        self.told(((1,),), finds, schema, ((row(1, 2, 9, "z"), row(2, 2, 9)),), "a", ("check", ("is", "s", "")))

    def test_the_same_as_breaks_tells_of_the_schema_with_that_rule(self):
        rolled = dice(95)
        seen = {}
        for k in range(600):
            schema = made_schema(rolled)
            store = made_store(rolled, schema)
            home = rolled.choice(schema)
            rule = made_rule(rolled, home, schema)
            if rule is not None:
                self.one_rule(schema, store, home, rule, seen)
        self.assertEqual(len(seen), 6)

    def one_rule(self, schema, store, home, rule, seen):
        told = self.ask(finds, schema, store, home[0], rule)
        triples = breaks(with_rule(schema, home[0], rule), store)
        self.assertEqual(told, tuple([key for name, number, key in triples if (name, number) == (home[0], len(home[3]))]))
        rows = [each for other, each in every_row(schema, store) if other == home]
        keys = [plain_key(home, each) for each in rows if is_broken(schema, store, home, each, rule)]
        self.assertEqual(list(told), sorted(keys))
        if is_good(schema, store):
            self.assertIs(is_good(with_rule(schema, home[0], rule), store), told == ())
        seen[rule[0], bool(told)] = True


if __name__ == "__main__":
    unittest.main()
