import unittest

from dealtables.breaking import is_good
from dealtables.coming import back_from, thinned
from dealtables.errors import BadLog
from dealtables.logs import written_base, written_deal
from dealtables.schemas import is_schema
from tests.asked import AskedCase
from tests.making import deal_or_none, dice, made_deal, made_good_store, made_schema
from tests.plainly import plain_back, plain_sum
from tests.small import PAIRS, refers, row, table

SCHEMA = (
    table("b"),
    table("a", ("check", ("not", ("is", "y", 13))), refers("x", "b", "stop"), refers("y", "a", "late")),
    PAIRS,
)
BARE = ((), (), ())
BASE = ("base", "add b 1 ? ? ?", "add b 7 0 -1 'q", "add a -3 7 ? '", "add a 5 ? ? ?", "add p 2 ? '", "add p 1 ? 'a", "END")
BASE_STORE = ((row(1), row(7, 0, -1, "q")), (row(-3, 7, None, ""), row(5)), ((2, None, ""), (1, None, "a")))
DEAL = ("deal", "add a 9 1 10 ?", "mark m", "drop p 'a 1", "back m", "add a 10 ? ? 'z", "set a 5 : s 'w x 1 y ?", "END")
DEAL_STORE = (BASE_STORE[0], (row(-3, 7, None, ""), row(5, 1, None, "w"), row(9, 1, 10), row(10, None, None, "z")),
              BASE_STORE[2])
EMPTY_DEAL = ("deal", "END")
FIRST_DEAL = ("deal", "add b 1 ? ? ?", "add p 0 ? 'a", "END")
FIRST_STORE = ((row(1),), (), ((0, None, "a"),))


def log(*lines):
    """These rows as a log; each END is an end with the sum that is due there."""
    text = ""
    start = 0
    for line in lines:
        if line == "END":
            text += "end " + plain_sum(text[start:]) + "\n"
            start = len(text)
        else:
            text += line + "\n"
    return text


class ComingCase(AskedCase):
    def comes(self, store, text, whole=None, schema=SCHEMA):
        self.assertIs(is_schema(schema), True)
        self.told((store, len(text) if whole is None else whole), back_from, schema, text)
        self.told(written_base(schema, store), thinned, schema, text)

    def spoilt(self, at, *lines, schema=SCHEMA):
        text = log(*lines)
        self.is_spoilt(at, text, schema)
        # Whatever stands behind the first row that can not stand.
        for more in ("deal", "x", log(*FIRST_DEAL), "no\nrow\n"):
            self.is_spoilt(at, text + more, schema)

    def is_spoilt(self, at, text, schema=SCHEMA):
        self.assertIs(is_schema(schema), True)
        self.refused(BadLog, at, back_from, schema, text)
        self.refused(BadLog, at, thinned, schema, text)


class Whole(ComingCase):
    """7.3: logs that are whole."""

    def test_the_empty_text(self):
        self.comes(BARE, "")

    def test_a_base_alone(self):
        self.comes(BASE_STORE, log(*BASE))
        self.comes(BARE, log("base", "END"))
        self.assertEqual(log(*BASE), written_base(SCHEMA, BASE_STORE))

    def test_deals_alone(self):
        self.comes(FIRST_STORE, log(*FIRST_DEAL))
        self.comes(BARE, log(*EMPTY_DEAL))
        self.comes(((row(1),), (row(4, 1),), ()),
                   log(*FIRST_DEAL, "deal", "drop p 'a 0", "END", *EMPTY_DEAL, "deal", "add a 4 1 ? ?", "END"))

    def test_both(self):
        self.comes(DEAL_STORE, log(*BASE, *DEAL))
        self.comes(DEAL_STORE, log(*BASE, *EMPTY_DEAL, *DEAL, *EMPTY_DEAL))
        self.comes(FIRST_STORE, log("base", "END", *FIRST_DEAL))

    def test_a_base_keeps_late_rules_by_rows_behind(self):
        rows = (row(1, None, 2), row(2, None, 1))
        self.comes(((), rows, ()), log("base", "add a 1 ? 2 ?", "add a 2 ? 1 ?", "END"))

    def test_a_deal_keeps_late_rules_by_its_end(self):
        self.comes(((), (row(1, None, 2), row(2)), ()), log("deal", "add a 1 ? 2 ?", "add a 2 ? ? ?", "END"))

    def test_the_same_as_the_writing_of_deals(self):
        deeds = (("add", "a", row(9, 1, 10)), ("mark", "m"), ("drop", "p", ("a", 1)), ("back", "m"),
                 ("add", "a", row(10, s="z")), ("set", "a", (5,), (("s", "w"), ("x", 1), ("y", None))))
        self.assertEqual(log(*DEAL), written_deal(deeds))

    def test_marks_named_like_other_words(self):
        for name in ("mark", "base", "deal", "end", "a", "abcdef"):
            self.comes(BARE, log("deal", "mark " + name, "add b 1 ? ? ?", "back " + name, "END"))

    def test_tables_and_columns_named_like_other_words(self):
        schema = (("end", (("deal", "whole", False), ("add", "text", True), ("base", "whole", True)), ("deal",), ()),)
        text = log("base", "add end 1 ? ?", "END", "deal", "add end 2 'end ?", "set end 1 : base 3 add 'deal", "END")
        self.comes((((1, "deal", 3), (2, "end", None)),), text, schema=schema)


class Cut(ComingCase):
    """7.3, 0.2 (h): logs that are cut."""

    def test_at_every_place(self):
        parts = ((BASE, BASE_STORE), (EMPTY_DEAL, BASE_STORE), (DEAL, DEAL_STORE),
                 (("deal", "drop a 10", "drop a 9", "END"),
                  (BASE_STORE[0], (row(-3, 7, None, ""), row(5, 1, None, "w")), BASE_STORE[2])))
        ends = [(0, BARE)]
        lines = ()
        for part, store in parts:
            lines = lines + part
            ends.append((len(log(*lines)), store))
        text = log(*lines)
        for many in range(len(text) + 1):
            whole, store = [pair for pair in ends if pair[0] <= many][-1]
            self.comes(store, text[:many], whole)

    def test_signs_behind_the_last_row_end(self):
        for rest in ("x", "deal", "base", "end", "end 0000", "add", " ", "'", "?", "no such row", "add b 1 ? ? ?", "~" * 200,
                     "\t", "\r", "\u00e9", "\x0b", "\u2028 x"):
            self.comes(BARE, rest, 0)
            self.comes(BASE_STORE, log(*BASE) + rest, len(log(*BASE)))
            self.comes(FIRST_STORE, log(*FIRST_DEAL) + rest, len(log(*FIRST_DEAL)))
            self.comes(FIRST_STORE, log(*FIRST_DEAL) + "deal\n" + rest, len(log(*FIRST_DEAL)))
            self.comes(BARE, "base\n" + rest, 0)

    def test_rows_of_a_base_or_deal_whose_end_has_not_come(self):
        for many in range(1, len(BASE)):
            self.comes(BARE, log(*BASE[:many]), 0)
        for many in range(1, len(DEAL)):
            self.comes(BASE_STORE, log(*BASE, *DEAL[:many]), len(log(*BASE)))
        for many in range(1, len(FIRST_DEAL)):
            self.comes(BARE, log(*FIRST_DEAL[:many]), 0)

    def test_what_only_an_end_would_tell_is_not_told_yet(self):
        self.comes(BARE, log("base", "add a 1 9 13 ?"), 0)
        self.comes(BARE, log("deal", "drop a 9", "add a 1 9 13 ?", "back m", "set b 4 : x 1"), 0)


class Places(ComingCase):
    """7.3: rows that can not stand where they do."""

    def test_base_elsewhere_than_in_the_first_row(self):
        self.spoilt(1, "base", "base")
        self.spoilt(2, "base", "END", "base", "END")
        self.spoilt(len(BASE), *BASE, *BASE)
        self.spoilt(len(FIRST_DEAL), *FIRST_DEAL, *BASE)
        self.spoilt(1, "deal", "base")
        self.spoilt(2, "deal", "add b 1 ? ? ?", "base")

    def test_deal_in_a_deal_or_a_base(self):
        self.spoilt(1, "deal", "deal")
        self.spoilt(2, "deal", "mark m", "deal", "END")
        self.spoilt(1, "base", "deal")
        self.spoilt(2, "base", "add b 1 ? ? ?", "deal")

    def test_a_deed_outside_of_a_deal(self):
        for line in ("add b 1 ? ? ?", "drop b 1", "set b 1 : x 1", "mark m", "back m"):
            self.spoilt(0, line)
            self.spoilt(len(BASE), *BASE, line)
            self.spoilt(len(FIRST_DEAL), *FIRST_DEAL, line, *FIRST_DEAL)

    def test_an_end_outside_of_a_deal(self):
        self.spoilt(0, "END")
        self.spoilt(0, "end 0000")
        self.spoilt(0, "end")
        self.spoilt(len(BASE), *BASE, "END")
        self.spoilt(len(FIRST_DEAL), *FIRST_DEAL, "END")

    def test_other_rows_outside_of_a_deal(self):
        for line in ("", " ", "Base", "base ", " base", "deal ", " deal", "deals", "bas", "dea", "x", "deal 1", "'", "?",
                     "base\r", "deal\r", "BASE", "deal\t", "\x0bdeal"):
            self.spoilt(0, line)
            self.spoilt(2, *EMPTY_DEAL, line)

    def test_marks_and_returns_in_a_base(self):
        for line in ("mark m", "back m"):
            self.spoilt(1, "base", line)
            self.spoilt(2, "base", "add b 1 ? ? ?", line, "END")

    def test_drop_and_set_in_a_base(self):
        for line in ("drop b 1", "set b 1 : x 1"):
            self.spoilt(1, "base", line)
            self.spoilt(2, "base", "add b 1 ? ? ?", line, "END")

    def test_tables_out_of_turn_in_a_base(self):
        self.spoilt(2, "base", "add a 1 ? ? ?", "add b 2 ? ? ?", "END")
        self.spoilt(3, "base", "add b 1 ? ? ?", "add p 1 ? '", "add a 2 ? ? ?", "END")
        self.spoilt(3, "base", "add b 1 ? ? ?", "add a 2 ? ? ?", "add b 3 ? ? ?")

    def test_keys_not_rising_in_a_base(self):
        self.spoilt(2, "base", "add b 2 ? ? ?", "add b 1 ? ? ?", "END")
        self.spoilt(2, "base", "add b 2 ? ? ?", "add b 2 1 ? ?", "END")
        self.spoilt(3, "base", "add b 2 ? ? ?", "add b 10 ? ? ?", "add b 9 ? ? ?")
        self.spoilt(2, "base", "add p 1 ? 'b", "add p 2 ? 'a", "END")
        self.spoilt(2, "base", "add p 1 ? 'b", "add p 1 5 'b", "END")
        self.spoilt(2, "base", "add p 1 ? 'b", "add p 0 ? 'b", "END")
        self.comes(((), (), ((2, None, "a"), (1, None, "b"))), log("base", "add p 2 ? 'a", "add p 1 ? 'b", "END"))

    def test_keys_in_any_turn_in_a_deal(self):
        self.comes(((row(1), row(2)), (row(1),), ()),
                   log("deal", "add b 2 ? ? ?", "add a 1 ? ? ?", "add b 1 ? ? ?", "END"))


class Rows(ComingCase):
    """7.3: rows that are no deed's writing."""

    sound = ("add b 1 2 -3 'x", "add b 1 ? ? ?", "drop b 1", "drop p 'a 1", "set b 1 : x 1", "set b 1 : x 1 s 'y", "mark m",
             "back m")

    def no_row(self, line):
        self.spoilt(1, "deal", line, "END")
        self.spoilt(2, "deal", "add b 500 ? ? ?", line)
        self.spoilt(len(BASE) + 1, *BASE, "deal", line)
        if line.startswith("add"):
            self.spoilt(1, "base", line, "END")

    def test_the_sound_ones_may_stand(self):
        for line in self.sound:
            self.comes(BARE, log("deal", line), 0)

    def test_a_blank_too_many_or_too_few(self):
        for line in self.sound:
            self.no_row(" " + line)
            self.no_row(line + " ")
            for place, sign in enumerate(line):
                if sign == " ":
                    self.no_row(line[:place] + " " + line[place:])
                    self.no_row(line[:place] + line[place + 1:])
                    self.no_row(line[:place] + "\t" + line[place + 1:])

    def test_a_word_less(self):
        for line in self.sound:
            words = line.split(" ")
            for place in range(len(words)):
                self.no_row(" ".join(words[:place] + words[place + 1:]))

    def test_a_word_more(self):
        for line in self.sound:
            words = line.split(" ")
            for word in ("1", "?", "'", ":", "x", "m", "b"):
                for place in range(len(words) + 1):
                    self.no_row(" ".join(words[:place] + [word] + words[place:]))

    def test_first_words_that_there_are_not(self):
        for word in ("Add", "adds", "ad", "", "ADD", "table", "end", "ends", "'", "?", "1", "not"):
            for line in self.sound:
                self.no_row(" ".join([word] + line.split(" ")[1:]))

    def test_one_first_word_in_the_place_of_another(self):
        for line in ("add b 1", "drop b 1 2 -3 'x", "set b 1", "set b 1 2 -3 'x", "mark b 1", "back b 1", "add m", "drop m",
                     "set m", "add b 1 : x 1", "drop b 1 : x 1", "set b : x 1", "set b 1 :", "set b 1 : x", "set : x 1"):
            self.no_row(line)

    def test_numbers_that_are_written_otherwise(self):
        for word in ("01", "-01", "007", "-0", "00", "+1", "1.0", "1_0", "- 1", "--1", "1-", "", "-", "1e1", "0x1", "\u0661",
                     "1 ", "one", "True", "None"):
            self.no_row("add b 1 " + word + " ? ?")
            self.no_row("drop b " + word)
            self.no_row("set b 1 : x " + word)
            self.no_row("set b " + word + " : x 1")

    def test_worths_beyond_the_bounds(self):
        for word in ("1000", "-1000", "9" * 5000):
            self.no_row("add b 1 " + word + " ? ?")
            self.no_row("drop b " + word)
            self.no_row("set b 1 : x " + word)
        for word in ("'abcdefg", "'1234567", "'A", "'a-b", "'a'", "''", "'?", "'\u00e9", "a", "'a:", "':"):
            self.no_row("add b 1 ? ? " + word)
            self.no_row("drop p " + word + " 1")
            self.no_row("set b 1 : s " + word)
        self.comes(BARE, log("deal", "add b -999 999 -999 'abcde9", "set b 999 : s '123456"), 0)

    def test_worths_that_may_not_stand_there(self):
        for line in ("add b ? 1 1 'x", "add b 'x 1 1 'x", "add b 1 'x 1 'x", "add b 1 1 1 1", "add p 1 1 ?", "add p ? 1 'x",
                     "drop b ?", "drop b 'x", "drop p 1 'a", "drop p ? 1", "set b ? : x 1", "set b 1 : x 'x", "set b 1 : s 1",
                     "set p 1 'a : v 1"):
            self.no_row(line)

    def test_names_that_do_not_stand_there(self):
        for line in ("add c 1 ? ? ?", "add B 1 ? ? ?", "add  1 ? ? ?", "drop c 1", "set c 1 : x 1", "set b 1 : z 1",
                     "set b 1 : X 1", "set b 1 : v 1", "set b 1 : b 1", "add ? 1 ? ? ?", "add : 1 ? ? ?", "drop 'b 1"):
            self.no_row(line)

    def test_pairs_that_can_not_be_set(self):
        for line in ("set b 1 : k 1", "set b 1 : x 1 k 2", "set b 1 : x 1 x 2", "set b 1 : x 1 x 1", "set b 1 : x 1 y 2 x 3",
                     "set p 'a 1 : n 'b", "set b 1 : x 1 y 2 s 'x k 1", "set b 1 : x 1 : y 2", "set b 1 : x 1 y",
                     "set b 1 : x : y", "set b 1 : : x 1"):
            self.no_row(line)

    def test_at_most_three_pairs(self):
        columns = tuple([(name, "whole", name != "k") for name in "kabcd"])
        schema = (("t", columns, ("k",), ()),)
        text = "deal\nset t 1 : a 1 b 2 c 3 d 4\n"
        self.refused(BadLog, 1, back_from, schema, text)
        self.told((((),), 0), back_from, schema, text.replace(" d 4", ""))

    def test_names_of_marks(self):
        for name in ("", "M", "abcdefg", "m1", "1", "'m", "?", "m-", "\u00e9", ":"):
            self.no_row("mark " + name)
            self.no_row("back " + name)
        self.no_row("mark")
        self.no_row("back")

    def test_in_a_deal_whose_end_has_not_come(self):
        self.is_spoilt(1, "deal\nno\n")
        self.is_spoilt(2, "deal\nmark m\nadd b 1\n")
        self.is_spoilt(1, "base\nadd b 1\nadd b 2 ? ? ?")
        self.is_spoilt(len(BASE) + 1, log(*BASE) + "deal\n\nadd")

    def test_the_first_of_several_is_told(self):
        self.spoilt(1, "deal", "no", "no", "END", "base")
        self.spoilt(0, "no", "base", "END")
        self.spoilt(2, "base", "add b 2 ? ? ?", "add b 1 ? ? ?", "drop b 1", "end 0000")


class Ends(ComingCase):
    """7.3: ends that can not stand."""

    def test_a_wrong_sum(self):
        for part in (BASE, DEAL[:2] + DEAL[5:6] + DEAL[-1:], ("base", "END"), EMPTY_DEAL, FIRST_DEAL):
            due = log(*part).split("\n")[-2][4:]
            for place in range(4):
                for figure in "0123456789":
                    if figure != due[place]:
                        spoilt = due[:place] + figure + due[place + 1:]
                        self.spoilt(len(part) - 1, *part[:-1], "end " + spoilt)

    def test_a_sum_that_is_not_four_figures(self):
        part = ("deal", "add b 43 ? ? ?")
        due = plain_sum(log(*part))
        for word in (due[1:], due[:3], "0" + due, due + "0", " " + due, due + " ", "'" + due, "-" + due, "", "?", "x"):
            self.spoilt(2, *part, "end " + word)
        self.spoilt(2, *part, "end")
        self.spoilt(2, *part, "end" + due)
        self.spoilt(2, *part, "end  " + due)
        self.spoilt(2, *part, " end " + due)
        self.spoilt(2, *part, "End " + due)
        self.spoilt(2, *part, "end " + due + " x")
        self.comes(((row(43),), (), ()), log(*part, "end " + due))

    def test_noughts_ahead_of_a_sum(self):
        found = [part for part in [("deal", f"add b {number} ? ? ?") for number in range(-999, 1000)]
                 if plain_sum(log(*part))[0] == "0"]
        for part in found[:20]:
            due = plain_sum(log(*part))
            self.comes(((row(int(part[1].split(" ")[2])),), (), ()), log(*part, "END"))
            self.spoilt(2, *part, "end " + due.lstrip("0"))
        self.assertGreater(len(found), 20)

    def test_a_sum_of_more_or_less_than_all_behind_the_last_end(self):
        whole = log(*FIRST_DEAL)
        more = "deal\nadd b 8 ? ? ?\n"
        for summed in (whole + more, more[5:], more[:-1], more[:5], "end" + more, ""):
            if plain_sum(summed) != plain_sum(more):
                self.is_spoilt(len(FIRST_DEAL) + 2, whole + more + "end " + plain_sum(summed) + "\n")
        self.comes(((row(1), row(8)), (), ((0, None, "a"),)), whole + more + "end " + plain_sum(more) + "\n")

    def test_the_end_of_a_base_that_breaks_rules(self):
        self.spoilt(2, "base", "add a 1 ? 13 ?", "END")
        self.spoilt(2, "base", "add a 1 9 ? ?", "END")
        self.spoilt(2, "base", "add a 1 ? 9 ?", "END")
        self.spoilt(4, "base", "add b 1 ? ? ?", "add a 1 1 ? ?", "add a 2 2 ? ?", "END", *FIRST_DEAL)
        unlike = (table("a", ("unlike", ("x",))),)
        self.spoilt(3, "base", "add a 1 5 ? ?", "add a 2 5 ? ?", "END", schema=unlike)
        self.comes(((row(1, 5), row(2, 6)),), log("base", "add a 1 5 ? ?", "add a 2 6 ? ?", "END"), schema=unlike)

    def test_the_end_of_a_deal_that_is_refused(self):
        for lines in (("drop b 1",), ("set b 1 : x 1",), ("add b 1 ? ? ?", "add b 1 ? ? ?"), ("add a 1 ? 13 ?",),
                      ("add a 1 9 ? ?",), ("add a 1 ? 9 ?",), ("back m",), ("mark m", "back n"),
                      ("add b 1 ? ? ?", "add a 1 1 ? ?", "drop b 1"), ("mark m", "drop b 1", "back m")):
            self.spoilt(len(lines) + 1, "deal", *lines, "END")
            self.spoilt(len(lines) + 3, *EMPTY_DEAL, "deal", *lines, "END", "deal")
        self.spoilt(len(BASE) + 2, *BASE, "deal", "add b 7 ? ? ?", "END")
        self.spoilt(len(BASE) + 2, *BASE, "deal", "drop b 7", "END")

    def test_a_wrong_sum_of_a_deal_that_is_refused(self):
        self.spoilt(2, "deal", "drop b 1", "end 0000")

    def test_beyond_three_rules(self):
        rules = (("check", ("not", ("is", "x", 1))), ("check", ("not", ("is", "x", 2))), ("unlike", ("x",)),
                 ("check", ("not", ("is", "x", 3))), refers("y", "a", "late"))
        schema = (table("a", *rules),)
        text = log("deal", "add a 1 4 ? ?", "END")
        self.told((((row(1, 4),),), len(text)), back_from, schema, text)
        self.refused(BadLog, 2, back_from, schema, log("deal", "add a 1 3 ? ?", "END"))
        self.refused(BadLog, 2, back_from, schema, log("base", "add a 1 3 ? ?", "END"))
        self.refused(BadLog, 2, back_from, schema, log("deal", "add a 1 4 9 ?", "END"))


class Thinned(ComingCase):
    """7.4: thinned."""

    logs = (
        (log(*BASE), BASE_STORE), (log(*BASE, *DEAL), DEAL_STORE), (log(*FIRST_DEAL), FIRST_STORE), ("", BARE),
        (log(*FIRST_DEAL, "deal"), FIRST_STORE), (log(*BASE, *DEAL)[:-1], BASE_STORE), (log(*BASE)[:-9], BARE),
        (log(*FIRST_DEAL) + "deal\nadd b 3", FIRST_STORE), (log(*EMPTY_DEAL), BARE),
    )

    def test_with_and_without_a_base_cut_and_not_cut(self):
        for text, store in self.logs:
            self.told(written_base(SCHEMA, store), thinned, SCHEMA, text)

    def test_as_it_is_written(self):
        self.told("base\nend 1593\n", thinned, SCHEMA, "")
        self.told(log("base", "add b 1 ? ? ?", "add p 0 ? 'a", "END"), thinned, SCHEMA, log(*FIRST_DEAL, *EMPTY_DEAL))

    def test_thinned_again_the_same(self):
        for text, store in self.logs:
            thin = thinned(SCHEMA, text)
            self.told(thin, thinned, SCHEMA, thin)
            self.told((store, len(thin)), back_from, SCHEMA, thin)

    def test_deals_behind_it_bring_back_what_the_log_with_them_does(self):
        more = log("deal", "add b 77 ? ? 'new", "END", "deal", "add a 77 77 77 ?", "END")
        for text, store in self.logs:
            whole = text[:back_from(SCHEMA, text)[1]]
            expected = self.ask(back_from, SCHEMA, whole + more)[0]
            self.assertNotEqual(expected, store)
            self.told((expected, len(thinned(SCHEMA, text) + more)), back_from, SCHEMA, thinned(SCHEMA, text) + more)

    def test_bad_logs(self):
        self.refused(BadLog, 0, thinned, SCHEMA, "no\n")
        self.refused(BadLog, len(BASE), thinned, SCHEMA, log(*BASE, *BASE))
        self.refused(BadLog, 2, thinned, SCHEMA, log("deal", "drop b 1", "END"))


class AllKinds(ComingCase):
    """7.3, 7.4, 0.2 (h): of all kinds of logs."""

    def made_log(self, rolled, schema):
        """A log, and the pairs of where its parts end and the store behind them."""
        store = tuple([() for home in schema])
        text = ""
        ends = [(0, store)]
        if rolled.random() < 0.5:
            store = made_good_store(rolled, schema)
            text = written_base(schema, store)
            ends.append((len(text), store))
        for k in range(rolled.randint(0, 4)):
            deeds = made_deal(rolled, schema, store, 4)
            behind = deal_or_none(schema, store, deeds)
            if behind is not None:
                store = behind
                text += written_deal(deeds)
                ends.append((len(text), store))
        return text, ends

    def test_wherever_a_log_is_cut(self):
        rolled = dice(111)
        many = 0
        for k in range(60):
            schema = made_schema(rolled)
            text, ends = self.made_log(rolled, schema)
            for cut in range(len(text) + 1):
                whole, store = [pair for pair in ends if pair[0] <= cut][-1]
                self.assertEqual(back_from(schema, text[:cut]), (store, whole))
                many += 1
            self.assertIs(is_good(schema, store), True)
            self.told(written_base(schema, store), thinned, schema, text)
            self.told((store, len(thinned(schema, text))), back_from, schema, thinned(schema, text))
        self.assertGreater(many, 5000)

    def spoil(self, rolled, text):
        """The log with one thing done to it: to a sign, a word or a row."""
        lines = text.split("\n")[:-1]
        at = rolled.randrange(len(lines))
        words = lines[at].split(" ")
        place = rolled.randrange(len(words))
        way = rolled.choice(("sign", "word", "gone", "twice", "swapped", "other", "summed"))
        if way == "sign":
            spot = rolled.randrange(len(text))
            return text[:spot] + rolled.choice("\n ?'019a-:") + text[spot + rolled.randint(0, 1):]
        if way == "word":
            words[place] = rolled.choice(("?", "'", "'a", "0", "-1", "999", "1000", "a", "b", "add", "drop", "end", ":"))
        if way == "gone":
            words[place:place + 1] = []
        lines[at] = " ".join(words)
        if way == "twice":
            lines.insert(at, lines[at])
        if way == "swapped":
            other = rolled.randrange(len(lines))
            lines[at], lines[other] = lines[other], lines[at]
        if way == "other":
            lines[at] = rolled.choice(("deal", "base", "mark m", "back m", "", "end 0000") + tuple(lines))
        # Mostly with the sums that are due, or the first end behind it tells all.
        if way == "summed" or rolled.random() < 0.8:
            lines = ["END" if line.startswith("end ") else line for line in lines]
        return log(*lines)

    def test_spoilt_ones_against_a_plain_reading_row_by_row(self):
        rolled = dice(112)
        told = {}
        for k in range(1500):
            schema = made_schema(rolled)
            text = self.made_log(rolled, schema)[0]
            if text:
                spoilt = self.spoil(rolled, text)
                expected = plain_back(schema, spoilt)
                if isinstance(expected, int):
                    self.refused(BadLog, expected, back_from, schema, spoilt)
                else:
                    self.told(expected, back_from, schema, spoilt)
                told[isinstance(expected, int)] = told.get(isinstance(expected, int), 0) + 1
        self.assertGreater(min(told[True], told[False]), 200)


if __name__ == "__main__":
    unittest.main()
