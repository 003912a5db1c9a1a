import copy
import unittest

from dealtables.reading import read
from dealtables.schemas import is_schema
from dealtables.writing import written, written_worth
from tests.examples import SCHEMA, deep_test

COLUMNS = (("a", "whole", False), ("b", "whole", True), ("s", "text", False), ("t", "text", True))


def text_of(schema):
    """The schema's text; each schema of these tests is read back out of it, too."""
    text = written(schema)
    assert is_schema(schema), schema
    assert read(text) == schema, schema
    return text


def lines(rules=(), columns=COLUMNS, key=("a",), more=()):
    """The rows of the text of a schema whose first table is this one."""
    text = text_of((("tab", columns, key, rules),) + more)
    assert text.endswith("\n"), text
    return text[:-1].split("\n")


def line_of_rule(rule, more=()):
    return lines(rules=(rule,), more=more)[1 + len(COLUMNS)]


def line_of_test(test):
    return line_of_rule(("check", test))


class WholeTexts(unittest.TestCase):
    """1.2: the whole of a text."""

    def test_the_smallest(self):
        self.assertEqual(text_of((("t", (("c", "text", False),), ("c",), ()),)), "table t key c\n column c text\n")

    def test_an_ordinary_one(self):
        text = (
            "table place key id\n"
            " column id whole\n"
            " column name text\n"
            " column boss whole ?\n"
            " column size whole ?\n"
            " check or empty boss not is size -7\n"
            " unlike name size\n"
            " refers boss to place gap\n"
            "table good key sort place\n"
            " column sort text\n"
            " column place whole\n"
            " column spare text ?\n"
            " refers place to place along\n"
            " refers sort place to offer late\n"
            " check and below sort spare is spare '\n"
            "table offer key what where\n"
            " column what text\n"
            " column where whole\n"
            " refers what where to good stop\n"
        )
        self.assertEqual(text_of(SCHEMA), text)

    def test_four_of_all(self):
        tables = tuple([(name, COLUMNS, ("s", "a"), (("unlike", ("t", "b")),) * 3) for name in ("p", "q", "r", "s")])
        one = (" key s a\n column a whole\n column b whole ?\n column s text\n column t text ?\n"
               + " unlike t b\n" * 3)
        self.assertEqual(text_of(tables), "".join(["table " + name + one for name in ("p", "q", "r", "s")]))

    def test_it_is_a_text_and_stays_the_same(self):
        before = copy.deepcopy(SCHEMA)
        self.assertIs(type(written(SCHEMA)), str)
        self.assertEqual(written(SCHEMA), written(SCHEMA))
        self.assertEqual(SCHEMA, before)


class Rows(unittest.TestCase):
    """1.2: each kind of row."""

    def test_a_blank_ahead_of_all_but_the_first_of_a_table(self):
        for line in written(SCHEMA)[:-1].split("\n"):
            self.assertEqual(line.startswith("table "), not line.startswith(" "), line)
            self.assertFalse(line.startswith("  ") or line.endswith(" ") or "  " in line, line)

    def test_a_row_end_behind_each(self):
        text = written(SCHEMA)
        self.assertEqual(text.count("\n"), sum([1 + len(table[1]) + len(table[3]) for table in SCHEMA]))
        self.assertTrue(text.endswith("\n"))
        self.assertNotIn("\n\n", text)

    def test_keys_of_one_and_two_columns(self):
        self.assertEqual(lines(key=("a",))[0], "table tab key a")
        self.assertEqual(lines(key=("s",))[0], "table tab key s")
        self.assertEqual(lines(key=("a", "s"))[0], "table tab key a s")
        self.assertEqual(lines(key=("s", "a"))[0], "table tab key s a")

    def test_columns_in_turn_of_each_kind_with_gaps_or_without(self):
        self.assertEqual(lines()[1:], [" column a whole", " column b whole ?", " column s text", " column t text ?"])
        self.assertEqual(lines(columns=COLUMNS[::-1])[1:],
                         [" column t text ?", " column s text", " column b whole ?", " column a whole"])

    def test_rules_in_turn_behind_the_columns(self):
        rules = (("unlike", ("t",)), ("check", ("empty", "t")), ("refers", ("a",), "tab", "stop"))
        texts = [" unlike t", " check empty t", " refers a to tab stop"]
        self.assertEqual(lines(rules=rules)[5:], texts)
        self.assertEqual(lines(rules=rules[::-1])[5:], texts[::-1])

    def test_unlike_of_one_and_two_columns(self):
        self.assertEqual(line_of_rule(("unlike", ("s",))), " unlike s")
        self.assertEqual(line_of_rule(("unlike", ("t", "a"))), " unlike t a")

    def test_refers_with_each_way(self):
        for way in ("stop", "late", "along", "gap"):
            self.assertEqual(line_of_rule(("refers", ("b",), "tab", way)), " refers b to tab " + way)

    def test_refers_of_two_columns_to_a_table_behind(self):
        other = ("pair", COLUMNS, ("s", "a"), ())
        for way in ("stop", "late", "along", "gap"):
            line = line_of_rule(("refers", ("t", "b"), "pair", way), more=(other,))
            self.assertEqual(line, " refers t b to pair " + way)


class Tests(unittest.TestCase):
    """1.2: tests and worths."""

    def test_is_with_numbers(self):
        for number, figures in ((0, "0"), (7, "7"), (-7, "-7"), (999, "999"), (-999, "-999"), (10, "10")):
            self.assertEqual(line_of_test(("is", "a", number)), " check is a " + figures)

    def test_is_with_texts(self):
        for text in ("a", "abcxyz", "0", "007", "12ab"):
            self.assertEqual(line_of_test(("is", "t", text)), " check is t '" + text)

    def test_is_with_the_empty_text(self):
        self.assertEqual(line_of_test(("is", "t", "")), " check is t '")
        self.assertEqual(line_of_test(("or", ("is", "t", ""), ("empty", "b"))), " check or is t ' empty b")

    def test_worths(self):
        self.assertEqual([written_worth(worth) for worth in (0, -5, "", "x1", "5", None)],
                         ["0", "-5", "'", "'x1", "'5", "?"])

    def test_below_and_empty(self):
        self.assertEqual(line_of_test(("below", "a", "b")), " check below a b")
        self.assertEqual(line_of_test(("below", "t", "s")), " check below t s")
        self.assertEqual(line_of_test(("empty", "a")), " check empty a")

    def test_not_and_or(self):
        self.assertEqual(line_of_test(("not", ("empty", "b"))), " check not empty b")
        self.assertEqual(line_of_test(("and", ("empty", "b"), ("empty", "t"))), " check and empty b empty t")
        self.assertEqual(line_of_test(("or", ("is", "a", 1), ("below", "a", "b"))), " check or is a 1 below a b")

    def test_tests_within_tests(self):
        self.assertEqual(line_of_test(deep_test(("empty", "b"), 3)), " check not not not empty b")
        one = ("or", ("not", ("is", "a", -1)), ("is", "s", ""))
        deep = ("and", one, ("not", ("and", ("empty", "t"), ("empty", "b"))))
        self.assertEqual(line_of_test(deep), " check and or not is a -1 is s ' not and empty t empty b")

    def test_columns_that_are_called_like_words(self):
        table = ("table", (("key", "whole", False), ("not", "whole", True)), ("key",),
                 (("check", ("below", "not", "key")), ("unlike", ("not",)), ("refers", ("not",), "table", "gap")))
        self.assertEqual(text_of((table,)), "table table key key\n column key whole\n column not whole ?\n"
                                            " check below not key\n unlike not\n refers not to table gap\n")

    def test_schemas_somewhat_beyond_the_bounds(self):
        rules = (("check", deep_test(("is", "longcolumn", 12345), 6)),) * 5
        text = written((("longtable", (("longcolumn", "whole", True),), ("longcolumn",), rules),))
        self.assertEqual(text, "table longtable key longcolumn\n column longcolumn whole ?\n"
                               + " check not not not not not not is longcolumn 12345\n" * 5)


if __name__ == "__main__":
    unittest.main()
