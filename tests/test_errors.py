import unittest

from dealtables import errors
from dealtables.errors import BadCheck, BadLog, Clash, DealError, Held, NoMark, NoRef, NoRow, NoText, Twice

REFUSALS = (NoText, NoRow, Twice, BadCheck, NoRef, Held, NoMark, BadLog, Clash)


class TheInterfaceOfErrors(unittest.TestCase):
    def test_names(self):
        names = ("NoText", "NoRow", "Twice", "BadCheck", "NoRef", "Held", "NoMark", "BadLog", "Clash")
        self.assertEqual(tuple(refusal.__name__ for refusal in REFUSALS), names)
        self.assertEqual(DealError.__name__, "DealError")

    def test_all_stand_straight_below_deal_error(self):
        self.assertEqual(DealError.__bases__, (ValueError,))
        for refusal in REFUSALS:
            self.assertTrue(issubclass(refusal, DealError))

    def test_none_below_another(self):
        for one in REFUSALS:
            for other in REFUSALS:
                self.assertEqual(issubclass(one, other), one is other, (one, other))

    def test_no_further_refusals(self):
        classes = [thing for thing in vars(errors).values() if isinstance(thing, type)]
        self.assertEqual(set(classes), set(REFUSALS) | {DealError})

    def test_at_is_nought_where_nothing_is_told(self):
        for refusal in REFUSALS + (DealError,):
            for error in (refusal(), refusal("words")):
                self.assertIs(type(error.at), int)
                self.assertEqual(error.at, 0)
                self.assertIn("at", vars(error))

    def test_at_as_told(self):
        for refusal in REFUSALS + (DealError,):
            error = refusal("words", 4)
            self.assertEqual(error.at, 4)
            self.assertEqual(str(error), "words")

    def test_how(self):
        self.assertIn(Clash("words").how, ("one", "other", "both"))
        self.assertIn("how", vars(Clash()))
        for how in ("one", "other", "both"):
            error = Clash("words", 2, how)
            self.assertEqual((error.at, error.how, str(error)), (2, how, "words"))

    def test_how_of_clash_alone(self):
        for refusal in REFUSALS[:-1] + (DealError,):
            self.assertFalse(hasattr(refusal("words"), "how"), refusal)

    def test_raised_and_taken(self):
        for refusal in REFUSALS:
            with self.assertRaises(DealError) as taken:
                raise refusal("words", 1)
            self.assertIs(type(taken.exception), refusal)


if __name__ == "__main__":
    unittest.main()
