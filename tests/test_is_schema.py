import copy
import unittest

from dealtables.schemas import is_schema
from tests.examples import (ODD_THINGS, SCHEMA, WHOLES, deep_test, nested, other_kinds, with_one_leaf,
                            with_one_listed)

A = ("a", "whole", False)
B = ("b", "whole", True)
C = ("c", "whole", True)
S = ("s", "text", False)
T = ("t", "text", True)
CHECK = ("check", ("empty", "b"))


def table(name="tab", columns=(A, B), key=("a",), rules=()):
    return (name, columns, key, rules)


class SchemaCase(unittest.TestCase):
    def yes(self, *schemas):
        for schema in schemas:
            self.assertIs(is_schema(schema), True, schema)

    def no(self, *things):
        for thing in things:
            self.assertIs(is_schema(thing), False, thing)

    def yes_tables(self, *tables):
        self.yes(*[(one,) for one in tables])

    def no_tables(self, *things):
        self.no(*[(thing,) for thing in things])
        # A spoilt table spoils the schema wherever it stands.
        sound = table(name="sound")
        self.no(*[(sound, thing) for thing in things])
        self.no(*[(thing, sound) for thing in things])


class Schemas(SchemaCase):
    """0.5: tables of a schema."""

    def test_ordinary(self):
        self.yes(SCHEMA, (table(),), (WHOLES,))

    def test_one_to_four_tables(self):
        tables = tuple([table(name=name) for name in "pqrst"])
        self.no(())
        for many in range(1, 5):
            self.yes(tables[:many])
        self.no(tables)

    def test_names_unlike(self):
        self.no((table(), table()), (table("p"), table("q"), table("p")), (table("p"), table("q"), table("q")))
        self.no((table("p"), table("q", (A, S)), table("r"), table("p", (A, B, S))))

    def test_a_table_is_no_schema(self):
        self.no(table(), ((table(),),))


class Names(SchemaCase):
    """0.4: names of tables and of columns."""

    good = ("a", "z", "abcdef", "uvwxyz", "key", "is")
    bad = ("", "abcdefg", "A", "aB", "a1", "1", "a_", "_", " ", "a ", " a", "a b", "a-b", "a\n", "\n", "'a", "?", "~",
           "`", "{", "\u00e4", "\u0430", None, True, False, 0, 1, (), ("a",), [], ["a"])

    def test_of_tables(self):
        self.yes_tables(*[table(name=name) for name in self.good])
        self.no_tables(*[table(name=name) for name in self.bad])

    def test_of_columns(self):
        for name in self.good:
            self.yes_tables(table(columns=((name, "whole", False),), key=(name,)))
        for name in self.bad:
            self.no_tables(table(columns=((name, "whole", False),), key=(name,)))
            self.no_tables(table(columns=(A, (name, "text", True))))


class Columns(SchemaCase):
    """0.5: columns of a table."""

    def test_one_to_four(self):
        five = (A, B, C, S, T)
        self.no_tables(table(columns=()), table(columns=(), key=()))
        for many in range(1, 5):
            self.yes_tables(table(columns=five[:many]))
        self.no_tables(table(columns=five))

    def test_names_unlike(self):
        self.no_tables(table(columns=(A, A)), table(columns=(A, ("a", "text", True))), table(columns=(A, B, C, B)))

    def test_a_name_of_a_table_may_be_one_of_a_column(self):
        self.yes_tables(table(name="a"))

    def test_kinds(self):
        self.yes_tables(table(columns=(("a", "text", False),)), table(columns=(("a", "whole", False),)))
        for kind in ("", "Whole", "number", "wholetext", "hole", None, True, 0, int, ("whole",), ["text"], ()):
            self.no_tables(table(columns=(("a", kind, False),)), table(columns=(A, ("b", kind, True))))

    def test_gaps_is_a_truth(self):
        for gaps in (0, 1, None, "", "True", "?", (), (True,), [False]):
            self.no_tables(table(columns=(("a", "whole", gaps),)), table(columns=(A, ("b", "whole", gaps))))

    def test_parts(self):
        for column in ((), ("b",), ("b", "whole"), ("b", "whole", True, True), ("whole", "b", True), "b", None, 1):
            self.no_tables(table(columns=(A, column)))
        self.no_tables(table(columns="a"), table(columns=None), table(columns=A), table(columns=0))


class Keys(SchemaCase):
    """0.5: the key of a table."""

    def test_one_or_two_columns(self):
        columns = (A, S, ("d", "whole", False), B)
        self.yes_tables(table(columns=columns, key=("a",)), table(columns=columns, key=("d",)),
                        table(columns=columns, key=("a", "s")), table(columns=columns, key=("d", "a")))
        self.no_tables(table(columns=columns, key=()), table(columns=columns, key=("a", "s", "d")))

    def test_unlike(self):
        self.no_tables(table(key=("a", "a")), table(columns=(A, S), key=("s", "s")))

    def test_without_gaps(self):
        self.no_tables(table(key=("b",)), table(key=("a", "b")), table(key=("b", "a")), table(key=("b", "b")))

    def test_columns_of_the_table(self):
        self.no_tables(table(key=("x",)), table(key=("a", "x")), table(key=("x", "a")), table(key=("tab",)))
        self.no((table("p", (A,)), table("q", (("d", "whole", False),), ("a",))))

    def test_other_things(self):
        self.no_tables(*[table(key=key) for key in
                         ("a", None, 0, True, (0,), (None,), (("a",),), (A,), (["a"],), ["a"], ("a", None))])


class Tables(SchemaCase):
    """0.5: parts of a table."""

    def test_parts_missing_or_too_many(self):
        whole = table()
        for many in range(4):
            self.no_tables(whole[:many])
        self.no_tables(whole + ((),), whole + (None,), whole[1:] + whole[:1], (whole,))

    def test_none_to_three_rules(self):
        for many in range(4):
            self.yes_tables(table(rules=(CHECK,) * many))
        self.no_tables(table(rules=(CHECK,) * 4), table(rules=(CHECK,) * 5))

    def test_rules_that_are_none(self):
        self.no_tables(*[table(rules=rules) for rules in
                         (None, 0, True, "", "check", CHECK, [CHECK], [], (None,), (0,), ("check",), ((),), (True,))])

    def test_each_rule_counts(self):
        bad = ("check", ("empty", "x"))
        self.no_tables(table(rules=(bad, CHECK, CHECK)), table(rules=(CHECK, bad)), table(rules=(CHECK, CHECK, bad)))


class Checks(SchemaCase):
    """0.6, 0.7: rules of check."""

    def test_a_test_of_its_own_table(self):
        self.yes_tables(table(rules=(("check", ("below", "a", "b")),)))
        self.no_tables(table(rules=(("check", ("is", "a", None)),)), table(rules=(("check", "a"),)))
        other = table("other", (A, ("d", "whole", True)))
        self.no((table(rules=(("check", ("empty", "d")),)), other))
        self.no((other, table(rules=(("check", ("empty", "d")),))))

    def test_four_within_one_another(self):
        self.yes_tables(table(rules=(("check", deep_test(("empty", "b"), 3)),)))
        self.no_tables(table(rules=(("check", deep_test(("empty", "b"), 4)),)))

    def test_parts(self):
        self.no_tables(table(rules=(("check",),)), table(rules=(("check", CHECK[1], CHECK[1]),)),
                       table(rules=(CHECK[1],)), table(rules=(("Check", CHECK[1]),)),
                       table(rules=(("check", ("b",)),)), table(rules=(("check", ()),)),
                       table(rules=((CHECK[1], "check"),)), table(rules=((None, CHECK[1]),)))


class Unlikes(SchemaCase):
    """0.6: rules of unlike."""

    def columns(self, names):
        return table(columns=(A, B, C, T), rules=(("unlike", names),))

    def test_one_or_two_columns(self):
        for names in (("a",), ("b",), ("t",), ("a", "b"), ("t", "a"), ("b", "c")):
            self.yes_tables(self.columns(names))
        self.no_tables(self.columns(()), self.columns(("a", "b", "c")))

    def test_unlike_names(self):
        self.no_tables(self.columns(("a", "a")), self.columns(("t", "t")))

    def test_columns_of_the_table(self):
        for names in (("x",), ("a", "x"), ("x", "a"), "a", None, 0, (0,), (None,), ("a", None), (("a",),), ["a"],
                      ("tab",), (A,), (["a"],)):
            self.no_tables(self.columns(names))

    def test_parts(self):
        for rule in (("unlike",), ("unlike", ("a",), ("b",)), ("unlike", "a", "b"), ("like", ("a",)), (("a",),),
                     ("unlike", ("a",), "stop"), ("unlike", ("a",), "tab", "stop"), (True, ("a",))):
            self.no_tables(table(rules=(rule,)))


class Refers(SchemaCase):
    """0.6: rules of refers."""

    pair = table("pair", (S, A), ("s", "a"))
    word = table("word", (S, B), ("s",))

    def own(self, *rule):
        return table(columns=(A, B, C, T), rules=(("refers",) + rule,))

    def test_its_own_table(self):
        self.yes_tables(self.own(("b",), "tab", "stop"), self.own(("a",), "tab", "stop"))

    def test_tables_ahead_and_behind(self):
        rules = (("refers", ("b",), "other", "late"),)
        self.yes((table(rules=rules), table("other")), (table("other"), table(rules=rules)))
        self.yes((table("p"), table(rules=rules), table("q"), table("other")))

    def test_tables_that_are_not_there(self):
        for name in ("x", "", "a", "TAB", None, 0, True, ("tab",), ["tab"], table()):
            self.no_tables(self.own(("b",), name, "stop"))

    def test_ways(self):
        for way in ("stop", "late", "along", "gap"):
            self.yes_tables(self.own(("b",), "tab", way))
        for way in ("", "Stop", "go", "stopp", "gaps", None, True, 0, ("stop",), ["stop"]):
            self.no_tables(self.own(("b",), "tab", way))

    def test_gap_where_all_columns_may_have_gaps(self):
        self.no_tables(self.own(("a",), "tab", "gap"))
        for gaps_s in (False, True):
            for gaps_n in (False, True):
                columns = (A, ("u", "text", gaps_s), ("n", "whole", gaps_n))
                schema = (table(columns=columns, rules=(("refers", ("u", "n"), "pair", "gap"),)), self.pair)
                self.assertIs(is_schema(schema), gaps_s and gaps_n)
                for way in ("stop", "late", "along"):
                    schema = (table(columns=columns, rules=(("refers", ("u", "n"), "pair", way),)), self.pair)
                    self.yes(schema)

    def with_others(self, names, name):
        columns = (A, B, S, T)
        return (table(columns=columns, rules=(("refers", names, name, "stop"),)), self.pair, self.word, table("one"))

    def test_as_many_columns_as_the_key(self):
        for names, name in ((("s", "a"), "pair"), (("s",), "word"), (("b",), "one")):
            self.yes(self.with_others(names, name))
        for names, name in ((("s",), "pair"), (("a",), "pair"), (("s", "t"), "word"), (("a", "b"), "one"),
                            ((), "one"), ((), "pair"), (("s", "a", "b"), "pair")):
            self.no(self.with_others(names, name))

    def test_the_same_kinds_in_turn(self):
        self.yes(self.with_others(("t", "b"), "pair"), self.with_others(("t",), "word"))
        self.no(self.with_others(("a", "s"), "pair"), self.with_others(("a", "b"), "pair"),
                self.with_others(("s", "t"), "pair"), self.with_others(("a",), "word"), self.with_others(("s",), "one"))

    def test_kinds_in_the_turn_of_the_key_not_of_the_columns(self):
        turned = table("turned", (S, A), ("a", "s"))
        rules = (("refers", ("a", "s"), "turned", "stop"),)
        self.yes((table(columns=(A, S), rules=rules), turned))
        self.no((table(columns=(A, S), rules=(("refers", ("s", "a"), "turned", "stop"),)), turned))

    def test_the_key_is_the_other_tables_own(self):
        other = table("other", (S, A), ("s",))
        self.no((table(rules=(("refers", ("a",), "other", "stop"),)), other))
        self.yes((table(columns=(A, T), rules=(("refers", ("t",), "other", "stop"),)), other))

    def test_columns(self):
        for names in (("x",), ("b", "b"), "b", None, 0, (0,), (None,), (("b",),), ["b"], (B,), (["b"],), ("tab",)):
            self.no_tables(self.own(names, "tab", "stop"))
        self.no((table(columns=(A, S, T), rules=(("refers", ("s", "s"), "two", "stop"),)),
                 table("two", (S, ("u", "text", False)), ("s", "u"))))

    def test_parts(self):
        self.no_tables(self.own(), self.own(("b",)), self.own(("b",), "tab"), self.own(("b",), "tab", "stop", "stop"),
                       self.own("tab", ("b",), "stop"), self.own(("b",), "stop", "tab"))
        self.no_tables(table(rules=(("refer", ("b",), "tab", "stop"),)), table(rules=((1, ("b",), "tab", "stop"),)))

    def test_two_rules_to_one_another(self):
        there = table("there", rules=(("refers", ("b",), "back", "along"),))
        back = table("back", rules=(("refers", ("b",), "there", "along"),))
        self.yes((there, back))


class AnyThing(SchemaCase):
    """1.1, 0.3: any thing is answered, none is changed."""

    def test_odd_things(self):
        self.no(*ODD_THINGS)
        self.no_tables(*ODD_THINGS)

    def test_odd_things_in_each_place_of_a_table(self):
        for odd in ODD_THINGS:
            self.no_tables(table(columns=odd), table(columns=(A, odd)), table(key=odd), table(key=("a", odd)))
            self.no_tables(table(rules=(odd,)), table(rules=(("check", odd),)), table(rules=(("unlike", odd),)))
            for parts in ((odd, "tab", "stop"), (("b",), odd, "stop"), (("b",), "tab", odd)):
                self.no_tables(table(rules=(("refers",) + parts,)))

    def test_lists_may_stand_nowhere(self):
        spoilt = with_one_listed(SCHEMA)
        self.assertEqual(len(spoilt), 41)
        self.no(*spoilt)

    def test_other_kinds_in_each_place(self):
        self.no(*with_one_leaf(SCHEMA, other_kinds))
        self.no(*with_one_leaf((WHOLES,), other_kinds))

    def test_none_in_each_place(self):
        self.no(*with_one_leaf(SCHEMA, lambda leaf: [None]))

    def test_deep_nestings(self):
        self.no(nested(tuple, table()), nested(list, SCHEMA), nested(tuple, SCHEMA))

    def test_things_are_not_changed_and_answers_stay(self):
        for thing in ODD_THINGS + (SCHEMA, [table()], ([table()],), (list(table()),)):
            before = copy.deepcopy(thing)
            answers = [is_schema(thing) for k in range(3)]
            self.assertEqual(thing, before)
            self.assertEqual(len(set(answers)), 1)


if __name__ == "__main__":
    unittest.main()
