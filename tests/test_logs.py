import unittest

from dealtables.coming import back_from
from dealtables.logs import sum_of, written_base, written_deal
from tests.asked import AskedCase
from tests.making import deal_or_none, dice, made_deal, made_good_store, made_schema
from tests.plainly import plain_deed, plain_part, plain_sum
from tests.small import PAIRS, refers, row, table


class Sums(AskedCase):
    """7.1: sum_of."""

    def test_the_empty_text(self):
        self.told("0000", sum_of, "")

    def test_one_sign(self):
        for text, expected in (("a", "0097"), (" ", "0032"), ("~", "0126"), ("\n", "0010"), ("0", "0048")):
            self.told(expected, sum_of, text)

    def test_several_signs(self):
        # 31 * 97 + 98; 31 * 98 + 97; 31 * 3105 + 99 = 96354 = 9 * 9973 + 6597.
        self.told("3105", sum_of, "ab")
        self.told("3135", sum_of, "ba")
        self.told("6597", sum_of, "abc")

    def test_row_ends(self):
        # 31 * 10 + 10; 31 * 97 + 10; 31 * 10 + 97.
        self.told("0320", sum_of, "\n\n")
        self.told("3017", sum_of, "a\n")
        self.told("0407", sum_of, "\na")

    def test_noughts_ahead(self):
        seen = {}
        for one in range(32, 127):
            for other in range(32, 127):
                for third in (" ", "q"):
                    text = chr(one) + chr(other) + third
                    told = sum_of(text)
                    self.assertEqual(told, plain_sum(text))
                    seen[len(str(int(told)))] = text
        for many in (1, 2, 3, 4):
            self.assertIn(many, seen)
            self.told(plain_sum(seen[many]), sum_of, seen[many])
        self.assertEqual(sum_of(seen[1])[:3], "000")

    def test_long_texts(self):
        for text in ("abc\n" * 500, "~" * 3000, "\n" * 1000, "".join([chr(32 + k % 95) for k in range(2500)])):
            self.told(plain_sum(text), sum_of, text)

    def test_four_figures(self):
        for k in range(2000):
            self.assertRegex(sum_of("x" * k), "^[0-9]{4}$")


class Bases(AskedCase):
    """7.2: written_base."""

    def test_a_store_without_rows(self):
        # From sign to sign, b a s e and the row end: 98, 3135, 7543, 4555, 1593.
        self.told("base\nend 1593\n", written_base, (table("a"),), ((),))
        self.told("base\nend 1593\n", written_base, (table("a"), table("b")), ((), ()))

    def test_several_tables_in_turn(self):
        schema = (table("z"), PAIRS, table("a"))
        store = ((row(-999, 0, None, ""), row(5, None, -1, "a1")), ((1, None, ""), (999, 7, "zz9")), (row(0),))
        self.told(plain_part("base", "add z -999 0 ? '", "add z 5 ? -1 'a1", "add p 1 ? '", "add p 999 7 'zz9",
                             "add a 0 ? ? ?"), written_base, schema, store)

    def test_a_table_without_rows_among_others(self):
        store = ((), (row(1),), ())
        self.told(plain_part("base", "add b 1 ? ? ?"), written_base, (table("a"), table("b"), table("c")), store)

    def test_rules_are_not_written(self):
        self.told(plain_part("base", "add a 1 1 ? ?"), written_base, (table("a", refers("x", "a", "stop")),), ((row(1, 1),),))


class Deals(AskedCase):
    """7.1, 7.2: written_deal."""

    def written(self, deeds, *lines):
        self.told(plain_part("deal", *lines), written_deal, deeds)

    def test_no_deeds(self):
        # From sign to sign, d e a l and the row end: 100, 3201, 9571, 7592, 5983.
        self.told("deal\nend 5983\n", written_deal, ())

    def test_add(self):
        self.written((("add", "a", (1,)),), "add a 1")
        self.written((("add", "table", (-7, "b2", None, "")),), "add table -7 'b2 ? '")
        self.written((("add", "a", (None, "", 0, "7")),), "add a ? ' 0 '7")

    def test_drop(self):
        self.written((("drop", "a", (1,)),), "drop a 1")
        self.written((("drop", "a", ("", -999)),), "drop a ' -999")

    def test_set_with_one_to_three_pairs(self):
        self.written((("set", "a", (1,), (("x", 2),)),), "set a 1 : x 2")
        self.written((("set", "a", ("k", -1), (("y", None), ("s", ""))),), "set a 'k -1 : y ? s '")
        self.written((("set", "a", ("",), (("s", "0"), ("x", -5), ("y", 999))),), "set a ' : s '0 x -5 y 999")

    def test_marks_and_returns(self):
        self.written((("mark", "m"), ("back", "m"), ("mark", "abcdef")), "mark m", "back m", "mark abcdef")

    def test_all_in_turn(self):
        self.written((("mark", "m"), ("add", "a", (1, None)), ("set", "a", (1,), (("x", 2),)), ("back", "m"),
                      ("drop", "b", ("q",))), "mark m", "add a 1 ?", "set a 1 : x 2", "back m", "drop b 'q")

    def test_one_sign_each(self):
        for text in (written_deal(()), written_deal((("add", "a", (1, "b", None)),))):
            self.assertTrue(all([sign == "\n" or " " <= sign <= "~" for sign in text]))
            self.assertTrue(text.endswith("\n"))
            self.assertNotIn("  ", text)


class TextsTellOneAnother(AskedCase):
    """0.2 (a): deeds, logs and their texts."""

    def test_deals_and_bases_of_all_kinds(self):
        rolled = dice(101)
        seen = {}
        for k in range(300):
            schema = made_schema(rolled)
            store = made_good_store(rolled, schema)
            base = self.ask(written_base, schema, store)
            self.told((store, len(base)), back_from, schema, base)
            deeds = made_deal(rolled, schema, store)
            text = self.ask(written_deal, deeds)
            lines = text.split("\n")
            self.assertEqual(tuple([plain_deed(schema, line) for line in lines[1:-2]]), deeds)
            self.assertEqual(text, plain_part(*lines[:-2]))
            self.assertEqual(seen.setdefault(text, deeds), deeds)
            behind = deal_or_none(schema, store, deeds)
            if behind is not None:
                self.told((behind, len(base + text)), back_from, schema, base + text)
        self.assertGreater(len(seen), 200)

    def test_deeds_that_are_not_the_same_have_not_the_same_text(self):
        deeds = [("add", "a", worths) for worths in ((1, 2), (12,), (1, "2"), ("1", 2), ("1", "2"), ("", 2), (None, 2),
                                                     (2, None), (-1, 2), ("12",), (1,), (1, ""), (1, 2, 3))]
        deeds.extend([("drop", "a", (1, 2)), ("set", "a", (1,), (("x", 2),)), ("set", "a", (1,), (("x", "2"),)),
                      ("set", "a", (1, 2), (("x", 2),)), ("set", "a", (1,), (("x", 2), ("y", 2))),
                      ("set", "a", (1,), (("y", 2), ("x", 2))), ("mark", "a"), ("back", "a"), ("mark", "aa")])
        self.assertEqual(len(set([written_deal((deed,)) for deed in deeds])), len(deeds))


if __name__ == "__main__":
    unittest.main()
