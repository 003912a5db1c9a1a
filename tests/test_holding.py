import copy
import unittest

from dealtables.holding import holds
from dealtables.schemas import is_test
from tests.examples import deep_test
from tests.making import dice, made_row, made_schema, made_test
from tests.plainly import plain_holds

TABLE = (
    "mix",
    (("n", "whole", True), ("m", "whole", True), ("t", "text", True), ("u", "text", True), ("k", "whole", False)),
    ("k",),
    (),
)
ROW = (None, 5, None, "b", 1)
# Three tests of ROW, and what each of them tells.
ANSWERS = ((True, ("is", "k", 1)), (False, ("is", "k", 2)), (None, ("is", "n", 1)))


class HoldsCase(unittest.TestCase):
    def told(self, answer, test, row=ROW):
        self.assertIs(is_test(TABLE, test), True, test)
        self.assertIs(holds(TABLE, test, row), answer, (test, row))


class PlainTests(HoldsCase):
    """2.1: is, below, empty."""

    def test_is_of_whole_numbers(self):
        self.told(True, ("is", "m", 5))
        self.told(False, ("is", "m", 4))
        self.told(False, ("is", "m", -5))
        self.told(None, ("is", "n", 5))
        self.told(None, ("is", "n", 0))
        self.told(True, ("is", "n", 0), (0, None, None, None, 0))
        self.told(True, ("is", "n", -999), (-999, None, None, None, 0))

    def test_is_of_texts(self):
        self.told(True, ("is", "u", "b"))
        self.told(False, ("is", "u", "a"))
        self.told(False, ("is", "u", ""))
        self.told(None, ("is", "t", "b"))
        self.told(None, ("is", "t", ""))
        self.told(True, ("is", "t", ""), (0, 0, "", "", 0))
        self.told(False, ("is", "t", "0"), (0, 0, "00", "", 0))

    def test_below_of_whole_numbers(self):
        for one, other, answer in ((1, 2, True), (2, 1, False), (2, 2, False), (-2, -1, True), (-1, -2, False),
                                   (9, 10, True), (10, 9, False), (-999, 999, True), (0, 0, False)):
            self.told(answer, ("below", "n", "m"), (one, other, None, None, 0))
            self.told(answer, ("below", "m", "n"), (other, one, None, None, 0))

    def test_below_of_texts_as_texts_are_compared(self):
        for one, other, answer in (("a", "b", True), ("b", "a", False), ("a", "a", False), ("", "a", True),
                                   ("", "", False), ("10", "9", True), ("9", "10", False), ("a", "aa", True),
                                   ("ab", "b", True), ("9", "a", True), ("a", "9", False), ("z", "aa", False)):
            self.told(answer, ("below", "t", "u"), (None, None, one, other, 0))
            self.told(answer, ("below", "u", "t"), (None, None, other, one, 0))

    def test_below_with_gaps(self):
        for row in ((None, 1, None, "a", 0), (1, None, "a", None, 0), (None, None, None, None, 0)):
            for one, other in (("n", "m"), ("m", "n"), ("t", "u"), ("u", "t")):
                self.told(None, ("below", one, other), row)

    def test_below_of_one_column_twice(self):
        self.told(False, ("below", "m", "m"))
        self.told(None, ("below", "n", "n"))

    def test_empty(self):
        for column, answer in (("n", True), ("m", False), ("t", True), ("u", False), ("k", False)):
            self.told(answer, ("empty", column))
        self.told(False, ("empty", "n"), (0, None, "", None, 0))
        self.told(False, ("empty", "t"), (0, None, "", None, 0))

    def test_columns_are_found_by_their_names(self):
        row = (1, 2, "a", "b", 3)
        for column, worth in zip("nmtuk", row):
            self.told(True, ("is", column, worth), row)


class Joined(HoldsCase):
    """2.1, 0.2 (b): not, and, or."""

    def test_not(self):
        for answer, test in ANSWERS:
            self.told(answer, test)
            self.told({True: False, False: True, None: None}[answer], ("not", test))

    def test_and_of_all_nine_pairs(self):
        table = {
            (True, True): True, (True, False): False, (True, None): None,
            (False, True): False, (False, False): False, (False, None): False,
            (None, True): None, (None, False): False, (None, None): None,
        }
        for one, first in ANSWERS:
            for other, second in ANSWERS:
                self.told(table[one, other], ("and", first, second))

    def test_or_of_all_nine_pairs(self):
        table = {
            (True, True): True, (True, False): True, (True, None): True,
            (False, True): True, (False, False): False, (False, None): None,
            (None, True): True, (None, False): None, (None, None): None,
        }
        for one, first in ANSWERS:
            for other, second in ANSWERS:
                self.told(table[one, other], ("or", first, second))

    def test_empty_is_never_open(self):
        for answer, test in ((True, ("empty", "n")), (False, ("not", ("empty", "n"))), (False, ("empty", "m"))):
            self.told(answer, test)

    def test_tests_within_tests(self):
        self.told(None, ("not", ("and", ("is", "n", 1), ("is", "m", 5))))
        self.told(True, ("not", ("and", ("is", "n", 1), ("is", "m", 6))))
        self.told(True, ("or", ("not", ("or", ("is", "m", 6), ("below", "k", "k"))), ("is", "n", 1)))
        self.told(False, ("and", ("or", ("is", "n", 1), ("is", "m", 5)), ("not", ("is", "u", "b"))))
        self.told(None, ("and", ("or", ("is", "n", 1), ("is", "m", 6)), ("is", "u", "b")))

    def test_nots_of_nots(self):
        for answer, test in ANSWERS:
            for how_deep in range(4):
                turned = answer if how_deep % 2 == 0 or answer is None else not answer
                self.told(turned, deep_test(test, how_deep))

    def test_beyond_the_deepest_test(self):
        for answer, test in ANSWERS:
            self.assertIs(holds(TABLE, deep_test(test, 20), ROW), answer)


class Laws(unittest.TestCase):
    """0.2 (b): tests with gaps have the same rules as without."""

    def test_laws_of_all_kinds_of_tests(self):
        rolled = dice(21)
        seen = {}
        for k in range(1500):
            table = rolled.choice(made_schema(rolled))
            one = made_test(rolled, table[1])
            other = made_test(rolled, table[1])
            row = made_row(rolled, table)

            def told(test):
                return holds(table, test, row)
            self.assertIs(told(one), plain_holds(table, one, row), (table, one, row))
            self.assertIs(told(("not", ("and", one, other))), told(("or", ("not", one), ("not", other))))
            self.assertIs(told(("not", ("or", one, other))), told(("and", ("not", one), ("not", other))))
            self.assertIs(told(("not", ("not", one))), told(one))
            self.assertIs(told(("and", one, other)), told(("and", other, one)))
            self.assertIs(told(("or", one, other)), told(("or", other, one)))
            seen[told(one)] = True
        self.assertEqual(len(seen), 3)

    def test_nothing_is_changed_and_the_same_is_told(self):
        for answer, test in ANSWERS + ((True, ("empty", "n")), (None, ("or", ("is", "n", 1), ("below", "k", "n")))):
            before = copy.deepcopy((TABLE, test, ROW))
            self.assertEqual([holds(TABLE, test, ROW) for k in range(3)], [answer] * 3)
            self.assertEqual((TABLE, test, ROW), before)


if __name__ == "__main__":
    unittest.main()
