import copy
import unittest

from dealtables.errors import NoText
from dealtables.reading import read, worth_from
from dealtables.schemas import is_schema
from dealtables.writing import written, written_worth
from tests.examples import SCHEMA, WHOLES, deep_test
from tests.making import dice, made_schema

HEAD = "table t key a\n"
COLUMNS = " column a whole\n column b whole ?\n column s text\n column u text ?\n"
OTHER = "table o key x y\n column x text\n column y whole\n"
TABLE = ("t", (("a", "whole", False), ("b", "whole", True), ("s", "text", False), ("u", "text", True)), ("a",))
OTHER_TABLE = ("o", (("x", "text", False), ("y", "whole", False)), ("x", "y"), ())
# Every kind of row and of worth is in it.
TEXT = (HEAD + COLUMNS + " check or is s '0z and not below a b is b -10\n unlike u a\n refers u b to o gap\n"
        + OTHER + " refers y to t late\n")
WORDS = ("", "a", "b", "s", "t", "x", "zz", "table", "key", "column", "whole", "text", "?", "check", "unlike", "refers",
         "to", "stop", "gap", "is", "below", "empty", "not", "and", "or", "0", "00", "-0", "+1", "1", "1000", "'", "'a",
         "''", "' ", "a\n", "\n", "\t", "A", "\u00e9", "\u0663")
SIGNS = " \nab0?'-~A\t\r\u00e9\u00a0\u2028\u0663\x0b\x00"


class ReadCase(unittest.TestCase):
    def refused(self, *texts):
        for text in texts:
            try:
                told = read(text)
            except Exception as error:
                self.assertIs(type(error), NoText, text)
                self.assertEqual(error.at, 0)
            else:
                self.fail((text, told))

    def told(self, text, schema):
        self.assertEqual(read(text), schema)
        self.assertIs(is_schema(read(text)), True)
        self.assertEqual(written(read(text)), text)

    def either(self, text):
        """What holds of any text: it is refused, or it is the writing of what is read; True if it is read."""
        try:
            schema = read(text)
        except Exception as error:
            self.assertIs(type(error), NoText, text)
            self.assertEqual(error.at, 0)
            return False
        self.assertEqual(written(schema), text)
        self.assertIs(is_schema(schema), True)
        return True

    def told_rule(self, line, rule):
        self.told(HEAD + COLUMNS + line + "\n" + OTHER, (TABLE + ((rule,),), OTHER_TABLE))

    def told_test(self, words, test):
        self.told_rule(" check " + words, ("check", test))

    def no_rule(self, *lines):
        self.refused(*[HEAD + COLUMNS + line + "\n" + OTHER for line in lines])

    def no_test(self, *tests):
        self.no_rule(*[" check " + words for words in tests])


class Rows(ReadCase):
    """1.2: each kind of row is read."""

    def test_the_smallest(self):
        self.told("table t key c\n column c text\n", (("t", (("c", "text", False),), ("c",), ()),))

    def test_an_ordinary_one(self):
        self.assertEqual(read(written(SCHEMA)), SCHEMA)
        self.assertTrue(self.either(TEXT))

    def test_columns(self):
        self.told(HEAD + COLUMNS, (TABLE + ((),),))

    def test_keys_of_one_and_two_columns(self):
        for key in (("a",), ("s",), ("a", "s"), ("s", "a")):
            self.told("table t key " + " ".join(key) + "\n" + COLUMNS, (TABLE[:2] + (key, ()),))

    def test_several_tables(self):
        schema = tuple([(name,) + WHOLES[1:] for name in ("p", "q", "r", "s")])
        for many in range(1, 5):
            self.told(written(schema[:many]), schema[:many])

    def test_unlike(self):
        self.told_rule(" unlike s", ("unlike", ("s",)))
        self.told_rule(" unlike u a", ("unlike", ("u", "a")))

    def test_refers_with_each_way(self):
        for way in ("stop", "late", "along", "gap"):
            self.told_rule(" refers b to t " + way, ("refers", ("b",), "t", way))
            self.told_rule(" refers u b to o " + way, ("refers", ("u", "b"), "o", way))

    def test_tests(self):
        self.told_test("is a 5", ("is", "a", 5))
        self.told_test("below a b", ("below", "a", "b"))
        self.told_test("empty u", ("empty", "u"))
        self.told_test("not empty u", ("not", ("empty", "u")))
        self.told_test("and empty u is s '", ("and", ("empty", "u"), ("is", "s", "")))
        self.told_test("or below u s empty u", ("or", ("below", "u", "s"), ("empty", "u")))
        self.told_test("and or not is a -1 is s ' not and empty u empty b",
                  ("and", ("or", ("not", ("is", "a", -1)), ("is", "s", "")),
                   ("not", ("and", ("empty", "u"), ("empty", "b")))))

    def test_worths(self):
        for figures, number in (("0", 0), ("7", 7), ("-7", -7), ("10", 10), ("999", 999), ("-999", -999), ("100", 100)):
            self.told_test("is b " + figures, ("is", "b", number))
        for text in ("", "a", "abcxyz", "0", "007", "999999", "is"):
            self.told_test("is u '" + text, ("is", "u", text))

    def test_three_rules_in_turn(self):
        rules = (("unlike", ("s",)), ("check", ("empty", "b")), ("unlike", ("b", "u")))
        self.told(HEAD + COLUMNS + " unlike s\n check empty b\n unlike b u\n", (TABLE + (rules,),))

    def test_names_that_are_words_of_the_text(self):
        words = ("to", "is", "key", "table")
        for name in words:
            columns = tuple([(word, "whole", word != name) for word in words])
            others = [word for word in words if word != name]
            rules = (("refers", (others[0],), name, "gap"), ("unlike", (others[1], others[2])),
                     ("check", ("or", ("below", others[0], others[1]), ("is", others[2], 0))))
            schema = ((name, columns, (name,), rules),)
            self.assertIs(is_schema(schema), True)
            self.told(written(schema), schema)

    def test_a_column_called_to_ahead_of_to(self):
        text = "table to key to a\n column to whole\n column a whole\n refers a to to to stop\n"
        self.told(text, (("to", (("to", "whole", False), ("a", "whole", False)), ("to", "a"),
                          (("refers", ("a", "to"), "to", "stop"),)),))

    def test_of_all_kinds_of_schemas(self):
        rolled = dice(12)
        for k in range(400):
            schema = made_schema(rolled)
            self.told(written(schema), schema)

    def test_the_text_stays_and_the_answer_too(self):
        text = written(SCHEMA)
        before = copy.deepcopy(text)
        self.assertEqual([read(text) for k in range(3)], [SCHEMA] * 3)
        self.assertEqual(text, before)

    def test_what_is_told_is_made_of_tuples(self):
        def leaves(thing):
            self.assertNotIsInstance(thing, list)
            return [leaf for part in thing for leaf in leaves(part)] if isinstance(thing, tuple) else [thing]
        self.assertEqual({type(leaf) for leaf in leaves(read(TEXT))}, {str, int, bool})
        self.assertEqual([type(column[2]) for column in read(TEXT)[0][1]], [bool] * 4)


class OneChange(ReadCase):
    """1.2: texts with one change."""

    def test_every_line_out_or_twice_or_exchanged(self):
        lines = TEXT.split("\n")[:-1]
        for k, line in enumerate(lines):
            for others in ([], [line, line], [""], [line, ""], ["", line], [" "], [line, " "], [line + " "],
                           [" " + line]):
                self.either("".join([each + "\n" for each in lines[:k] + others + lines[k + 1:]]))
            turned = lines[:k] + lines[k:k + 2][::-1] + lines[k + 2:]
            self.either("".join([each + "\n" for each in turned]))

    def test_every_word_out_or_twice_or_exchanged(self):
        lines = TEXT.split("\n")[:-1]
        for k, line in enumerate(lines):
            words = line.split(" ")
            for at, word in enumerate(words):
                changed = [words[:at] + words[at + 1:], words[:at] + [word, word] + words[at + 1:],
                           words[:at] + words[at:at + 2][::-1] + words[at + 2:]]
                changed.extend([words[:at] + [other] + words[at + 1:] for other in WORDS])
                changed.extend([words[:at] + [other] + words[at:] for other in WORDS])
                for others in changed:
                    self.either("\n".join(lines[:k] + [" ".join(others)] + lines[k + 1:]) + "\n")

    def test_every_sign_out_or_more(self):
        for k in range(len(TEXT) + 1):
            if self.either(TEXT[:k]):
                self.assertEqual(TEXT[k - 1], "\n")
            self.either(TEXT[:k] + TEXT[k + 1:])
            for sign in SIGNS:
                self.either(TEXT[:k] + sign + TEXT[k:])
                self.either(TEXT[:k] + sign + TEXT[k + 1:])

    def test_blanks_and_row_ends_of_sound_texts(self):
        for text in (TEXT, written(SCHEMA), HEAD + COLUMNS):
            for k, sign in enumerate(text):
                if sign == " ":
                    self.refused(text[:k] + " " + text[k:], text[:k] + "\t" + text[k + 1:], text[:k] + "\n" + text[k:])
                if sign == "\n":
                    self.refused(text[:k] + text[k + 1:], text[:k] + "\n" + text[k:], text[:k] + " " + text[k:],
                                 text[:k] + "\r" + text[k:], text[:k] + " " + text[k + 1:])

    def test_texts_of_no_schema_at_all(self):
        self.refused("", " ", "\n", "\n\n", " \n", "a", "table", "table\n", "table \n", "table t\n", "table t key\n",
                     "table t key a", "table t key a\n", "~", "?", "'", " column a whole\n", " check empty a\n",
                     COLUMNS, "\n" + HEAD + COLUMNS, " " + HEAD + COLUMNS, "table", "tables t key a\n" + COLUMNS)

    def test_a_row_end_missing_or_twice(self):
        text = written(SCHEMA)
        self.refused(text[:-1], text + "\n", text + " ", text + " \n", text + "x", "\n" + text, text[:-1] + " \n",
                     text.replace("\n", "\r\n"), text.replace("\n", "\n\n"), text.replace("\n", "\r"))

    def test_a_rule_ahead_of_a_column(self):
        self.refused(HEAD + " unlike a\n" + COLUMNS, HEAD + " column a whole\n check empty a\n column b whole ?\n",
                     HEAD + " refers a to t stop\n column a whole\n")

    def test_a_column_or_a_rule_ahead_of_its_table(self):
        self.refused(" column a whole\n" + HEAD + COLUMNS, " unlike a\n" + HEAD + COLUMNS)


class Heads(ReadCase):
    """1.2, 0.5: rows of tables."""

    def test_words_of_the_first_row(self):
        self.refused(*[head + "\n" + COLUMNS for head in (
            "table t", "table t key", "table t key ", "table key a", "t key a", "table t kay a", "table t a", "key t a",
            "table t key a a", "table t key a s a", "table t key b", "table t key a b", "table t key x",
            "table  t key a", "table t  key a", "table t key  a", "table t key a ", " table t key a",
            "Table t key a", "table T key a", "table t1 key a", "table abcdefg key a", "table t key a key s",
            "table 't key a", "table t keys a")])

    def test_a_table_twice(self):
        self.refused(HEAD + COLUMNS + HEAD + COLUMNS, HEAD + COLUMNS + OTHER + HEAD + COLUMNS)

    def test_five_tables(self):
        self.refused("".join(["table " + name + " key a\n column a whole\n" for name in "pqrst"]))

    def test_tables_without_columns(self):
        self.refused(HEAD, HEAD + OTHER, OTHER + HEAD)

    def test_columns(self):
        self.refused(*[HEAD + " column a whole\n" + line + "\n" for line in (
            " column", " column ", " column b", " column b number", " column b whole ? ?", " column b whole !",
            " column b whole ", " column b ?", " column b ? whole", " column whole b", " column a text",
            " column B text", " column abcdefg text", " column  b whole", "  column b whole", "column b whole",
            " columns b whole", " column b whole?", " column 'b whole", " column b whole  ?", " column b whole stop",
            " b whole", " Column b whole", "x column b whole", " ? column b whole", " column b whole ? ")])

    def test_five_columns(self):
        self.refused(HEAD + COLUMNS + " column c whole\n")

    def test_four_rules(self):
        self.refused(HEAD + COLUMNS + " unlike a\n" * 4)


class Rules(ReadCase):
    """1.2, 0.6: rows of rules."""

    def test_other_words(self):
        self.no_rule("", " ", " rule a", " like a", " Check empty b", " checks empty b", "check empty b",
                     "  check empty b", "unlike a", "refers b to t stop", "x unlike a", " empty b", " check",
                     " unlike", " refers", " check ", " unlike ", " refers ", " check empty b ", " unlike a ")

    def test_unlike(self):
        self.no_rule(" unlike a a", " unlike a b s", " unlike x", " unlike a x", " unlike a  b", " unlike t",
                     " unlike a,b", " unlike a to b", " unlike A")

    def test_refers_to_what_is_not_there(self):
        self.no_rule(" refers b to x stop", " refers x to t stop", " refers b to b stop", " refers b x to o stop")

    def test_refers(self):
        self.no_rule(" refers b t stop", " refers b to stop", " refers b to t", " refers to t stop",
                     " refers b to t stops", " refers b to t stop late", " refers b to t stop ", " refers b in t stop",
                     " refers b to to t stop", " refers b to t  stop", " refers  b to t stop", " refers b b to t stop",
                     " refers b a to t stop",
                     " refers s to t stop", " refers b u to o stop", " refers u to o stop", " refers a to t gap",
                     " refers s b to o gap", " refers  to t stop", " refers b stop to t", " refers stop", " refers to",
                     " refers b to t t stop", " refers u b to o", " refers u a b to o late")


class Tests(ReadCase):
    """1.2, 0.7: tests and worths."""

    def test_words_missing_or_too_many(self):
        self.no_test("", " ", "is", "is a", "is a ", "is a 1 1", "is a 1 ", "below", "below a", "below a b b", "empty",
                     "empty b b", "empty ", "not", "not ", "and", "or", "and empty b", "or empty b", "not not",
                     "and empty b not", "or empty b or empty b", "not empty b empty b", "and empty b empty b empty b",
                     "empty b and empty b", "a", "a is 1", "is 1 a", "nor empty b empty b", "is  a 1", "not  empty b",
                     "(empty b)", "below a b below a b", "test empty b", "Is a 1", "isnt a 1", "above a b", "'")

    def test_columns_that_are_not_there_or_of_two_kinds(self):
        self.no_test("is x 1", "below a x", "below x a", "empty x", "empty t", "below a s", "below u b", "not empty x",
                     "is a '1", "is s 1", "is u 0", "or empty b is x 1")

    def test_figures(self):
        self.no_test(*["is a " + figures for figures in (
            "00", "01", "007", "-0", "-00", "-01", "+1", "+0", "1000", "-1000", "0999", "9999", "--1", "-", "+", "1-",
            "1_0", "1.0", "1e2", "0x1", "?", "\u0663", "\u00b2", "\u0661\u0662", "1\u00a0", " 1", "a", "True",
            "None", "1?", "'", "'1", "9" * 30, "-" + "9" * 30, "9" * 5000, "0" * 5000)])

    def test_texts(self):
        self.no_test(*["is s " + text for text in (
            "a", "abc", "?", "''", "'a'", "'A", "'-1", "'a_", "'?", "'~", "'abcdefg", "'0123456", "\"a", "'a b", "' a",
            "'\u00e9", "'\t", "1")])

    def test_written_worths_are_read_back(self):
        for worth in (0, 7, -7, 999, -999, "", "a", "0", "abc999", None):
            self.assertEqual(worth_from(written_worth(worth)), worth)
            self.assertIs(type(worth_from(written_worth(worth))), type(worth))

    def test_gaps_are_no_worths_of_tests(self):
        self.no_test("is a ?", "is b ?", "is s ?", "is u ?")

    def test_one_deeper_than_may_be(self):
        leaf = ("empty", "b")
        for how_deep in range(4):
            self.told_test("not " * how_deep + "empty b", deep_test(leaf, how_deep))
        for how_deep in (4, 5, 30, 100, 5000):
            self.no_test("not " * how_deep + "empty b", "not " * how_deep, "and " * how_deep, "or " * how_deep,
                         "and " * how_deep + "empty b" + " empty b" * how_deep,
                         "or empty b " * how_deep + "empty b")
        self.told_test("and not and empty b empty u or empty b empty u",
                  ("and", ("not", ("and", leaf, ("empty", "u"))), ("or", leaf, ("empty", "u"))))
        self.no_test("and not and empty b not empty u or empty b empty u",
                     "or empty b and empty b or empty b not empty b")


class LongTexts(ReadCase):
    """1.2: whatever text is handed in."""

    def test_long_ones_are_refused(self):
        self.refused("a" * 100000, " " * 100000, "\n" * 10000, "table " * 10000, TEXT * 2, TEXT * 50, "?" * 9999,
                     HEAD + " column a whole\n" * 5000, HEAD + COLUMNS + " unlike a\n" * 5000,
                     HEAD + COLUMNS + " unlike" + " a" * 5000 + "\n", "table t key" + " a" * 5000 + "\n" + COLUMNS)

    def test_all_kinds_of_texts(self):
        rolled = dice(5)
        for k in range(3000):
            words = [rolled.choice(WORDS) for turn in range(rolled.randint(0, 12))]
            self.either(rolled.choice((" ", "\n", " \n ", "")).join(words))
            lines = TEXT.split("\n")
            rolled.shuffle(lines)
            self.either("\n".join(lines[:rolled.randint(0, len(lines))]) + rolled.choice(("", "\n")))


if __name__ == "__main__":
    unittest.main()
