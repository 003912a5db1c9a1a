import unittest

from dealtables import errors
from dealtables.breaking import breaks, is_good
from dealtables.dealing import after_all, deal
from dealtables.doing import done
from dealtables.errors import BadCheck, Held, NoMark, NoRef, NoRow, Twice
from dealtables.schemas import is_schema, is_store
from tests.asked import AskedCase
from tests.making import dice, made_deal, made_good_store, made_schema
from tests.plainly import plain_deal
from tests.small import refers, row, table

SCHEMA = (
    table("a", ("unlike", ("s",)), ("check", ("not", ("is", "y", 13))), refers("x", "b", "stop")),
    table("b", refers("x", "b", "late"), refers("y", "a", "along")),
)
STORE = ((row(1, 1, 1, "p"), row(2)), (row(1), row(2, 1, 2)))

# Each refusal with deeds that bring it about on the store, whatever fillers stand ahead of them.
REFUSED = (
    (NoRow, ("drop", "a", (9,))),
    (NoRow, ("set", "a", (9,), (("y", 1),))),
    (Held, ("drop", "b", (1,))),
    (Twice, ("add", "a", row(1))),
    (Twice, ("add", "a", row(9, None, None, "p"))),
    (Twice, ("set", "a", (2,), (("s", "p"),))),
    (BadCheck, ("add", "a", row(9, None, 13))),
    (BadCheck, ("set", "a", (1,), (("y", 13),))),
    (NoRef, ("add", "a", row(9, 9))),
    (NoRef, ("set", "a", (1,), (("x", 9),))),
    (NoRef, ("add", "b", row(9, None, 9))),
    (NoMark, ("back", "m")),
)


def fillers(many):
    """Deeds that can be done wherever they stand."""
    return tuple([("add", "a", row(100 + number)) for number in range(many)])


class DealCase(AskedCase):
    def comes(self, deeds, expected, schema=SCHEMA, store=STORE):
        self.assertIs(is_schema(schema), True)
        self.assertIs(is_good(schema, store), True)
        self.told(expected, deal, schema, store, deeds)
        self.assertIs(is_store(schema, expected), True)
        self.assertIs(is_good(schema, expected), True)

    def is_refused(self, error, at, deeds, schema=SCHEMA, store=STORE):
        self.assertIs(is_schema(schema), True)
        self.assertIs(is_good(schema, store), True)
        self.refused(error, at, deal, schema, store, deeds)


class Deeds(DealCase):
    """5.1: deeds done in turn."""

    def test_no_deeds(self):
        self.comes((), STORE)
        self.comes((), ((), ()), store=((), ()))

    def test_each_deed_alone(self):
        for deed in (("add", "a", row(5, 2, 2, "q")), ("add", "b", row(0, 2, 1)), ("drop", "a", (2,)),
                     ("drop", "b", (2,)), ("set", "a", (1,), (("x", None), ("s", "q"))), ("set", "b", (2,), (("x", 2),))):
            self.comes((deed,), done(SCHEMA, STORE, deed))

    def test_one_behind_the_other(self):
        self.comes((("set", "a", (1,), (("x", 2),)), ("set", "b", (2,), (("x", None),)), ("drop", "b", (1,)),
                    ("add", "b", row(7, 7, 1))), ((row(1, 2, 1, "p"), row(2)), (row(2, None, 2), row(7, 7, 1))))

    def test_each_sees_what_those_ahead_of_it_did(self):
        self.comes((("add", "b", row(5)), ("add", "a", row(5, 5)), ("set", "a", (5,), (("y", 3),)),
                    ("drop", "a", (5,)), ("drop", "b", (5,))), STORE)
        self.is_refused(NoRef, 0, (("add", "a", row(5, 5)), ("add", "b", row(5))))
        self.is_refused(Held, 2, (("add", "b", row(5)), ("add", "a", row(5, 5)), ("drop", "b", (5,))))
        self.is_refused(Twice, 1, (("add", "b", row(5)), ("add", "b", row(5))))
        self.is_refused(NoRow, 1, (("drop", "a", (2,)), ("drop", "a", (2,))))
        self.is_refused(NoRow, 1, (("drop", "a", (2,)), ("drop", "b", (2,))))

    def test_a_row_that_goes_and_comes_again(self):
        self.comes((("drop", "a", (2,)), ("add", "a", row(2, None, 7))), ((row(1, 1, 1, "p"), row(2, None, 7)), (row(1),)))


class Refusals(DealCase):
    """5.1: each refusal with its place; a deal that is refused changes nothing."""

    def test_at_each_place(self):
        for error, deed in REFUSED:
            for ahead in range(4):
                for behind in range(3):
                    self.is_refused(error, ahead, fillers(ahead) + (deed,) + fillers(9)[5:5 + behind])

    def test_all_refusals_are_here(self):
        self.assertEqual(set([error.__name__ for error, deed in REFUSED]),
                         {"NoRow", "Held", "Twice", "BadCheck", "NoRef", "NoMark"})

    def test_the_first_one_of_several_is_told(self):
        for error, deed in REFUSED:
            for other, second in REFUSED:
                self.is_refused(error, 1, fillers(1) + (deed, second))

    def test_marks_and_returns_are_counted(self):
        for error, deed in REFUSED[:-1]:
            self.is_refused(error, 3, (("mark", "m"),) + fillers(1) + (("back", "m"), deed))

    def test_nothing_is_taken_back_by_a_return_that_comes_too_late(self):
        self.is_refused(BadCheck, 1, (("mark", "m"), ("add", "a", row(9, None, 13)), ("back", "m")))
        self.is_refused(NoRef, 1, (("mark", "m"), ("add", "a", row(9, 9)), ("back", "m")))

    def test_of_done_it_is_nought(self):
        for error, deed in REFUSED[:-1]:
            self.refused(error, 0, done, SCHEMA, STORE, deed)


class Late(DealCase):
    """5.1: rules of late are looked at at the end alone."""

    def test_broken_at_the_end(self):
        self.is_refused(NoRef, 1, (("add", "b", row(5, 9)),))
        self.is_refused(NoRef, 1, (("set", "b", (1,), (("x", 9),)),))
        for many in range(3):
            self.is_refused(NoRef, many + 1, (("add", "b", row(5, 9)),) + fillers(many))
            self.is_refused(NoRef, many + 1, fillers(many) + (("add", "b", row(5, 9)),))
        self.is_refused(NoRef, 3, (("add", "b", row(5, 9)), ("mark", "m"), ("back", "m")))

    def test_broken_by_a_drop(self):
        schema = (table("a"), table("b", refers("x", "a", "late")))
        store = ((row(1), row(2)), (row(1, 1), row(2, 2)))
        self.is_refused(NoRef, 1, (("drop", "a", (1,)),), schema, store)
        self.comes((("drop", "a", (1,)), ("drop", "b", (1,))), ((row(2),), (row(2, 2),)), schema, store)
        self.comes((("drop", "a", (1,)), ("add", "a", row(1, 8))), ((row(1, 8), row(2)), store[1]), schema, store)
        self.comes((("drop", "a", (1,)), ("set", "b", (1,), (("x", 2),))), ((row(2),), (row(1, 2), row(2, 2))),
                   schema, store)

    def test_broken_in_between_and_mended_by_the_end(self):
        self.comes((("add", "b", row(5, 6)), ("add", "b", row(6, 5))), (STORE[0], STORE[1] + (row(5, 6), row(6, 5))))
        self.comes((("add", "b", row(5, 9)), ("drop", "b", (5,))), STORE)
        self.comes((("add", "b", row(5, 9)), ("set", "b", (5,), (("x", None),))), (STORE[0], STORE[1] + (row(5),)))
        self.comes((("mark", "m"), ("add", "b", row(5, 9)), ("back", "m")), STORE)

    def test_mended_in_part(self):
        self.is_refused(NoRef, 3, (("add", "b", row(5, 8)), ("add", "b", row(6, 9)), ("add", "b", row(8))))

    def test_a_refusal_in_between_is_told_ahead_of_it(self):
        for error, deed in REFUSED:
            self.is_refused(error, 1, (("add", "b", row(5, 9)), deed))

    def test_other_ways_are_looked_at_at_once(self):
        for way in ("stop", "along", "gap"):
            schema = (table("a", refers("x", "a", way)),)
            self.is_refused(NoRef, 0, (("add", "a", row(1, 2)), ("add", "a", row(2))), schema, ((),))
        schema = (table("a", refers("x", "a", "late")),)
        self.comes((("add", "a", row(1, 2)), ("add", "a", row(2))), ((row(1, 2), row(2)),), schema, ((),))


class Marks(DealCase):
    """5.1: marks and returns."""

    add = tuple([("add", "a", row(number)) for number in range(20)])

    def with_rows(self, *numbers):
        return (STORE[0] + tuple([row(number) for number in numbers]), STORE[1])

    def test_marks_alone_do_nothing(self):
        self.comes((("mark", "m"),), STORE)
        self.comes((("mark", "m"), self.add[5], ("mark", "n")), self.with_rows(5))

    def test_back_to_a_mark(self):
        self.comes((("mark", "m"), ("back", "m")), STORE)
        self.comes((("mark", "m"), self.add[5], ("back", "m")), STORE)
        self.comes((self.add[5], ("mark", "m"), self.add[6], self.add[7], ("back", "m"), self.add[8]),
                   self.with_rows(5, 8))

    def test_drops_and_sets_are_taken_back(self):
        self.comes((("mark", "m"), ("drop", "a", (2,)), ("set", "a", (1,), (("x", None),)), ("drop", "b", (1,)),
                    ("back", "m")), STORE)

    def test_the_mark_stays(self):
        self.comes((("mark", "m"), self.add[5], ("back", "m"), self.add[6], ("back", "m")), STORE)
        self.comes((("mark", "m"), self.add[5], ("back", "m"), ("back", "m"), ("back", "m"), self.add[7]),
                   self.with_rows(7))

    def test_two_marks_of_one_name(self):
        twice = (("mark", "m"), self.add[5], ("mark", "m"), self.add[6], ("back", "m"))
        self.comes(twice, self.with_rows(5))
        self.comes(twice + (self.add[7], ("back", "m")), self.with_rows(5))

    def test_the_one_ahead_comes_again_when_the_second_is_forgotten(self):
        deeds = (("mark", "m"), self.add[5], ("mark", "n"), self.add[6], ("mark", "m"), self.add[7], ("back", "n"))
        self.comes(deeds, self.with_rows(5))
        self.comes(deeds + (("back", "m"),), STORE)

    def test_marks_behind_the_one_gone_back_to_are_forgotten(self):
        deeds = (("mark", "m"), self.add[5], ("mark", "n"), self.add[6], ("mark", "o"), ("back", "m"))
        self.is_refused(NoMark, 6, deeds + (("back", "n"),))
        self.is_refused(NoMark, 6, deeds + (("back", "o"),))
        self.comes(deeds + (("mark", "n"), self.add[7], ("back", "n")), STORE)

    def test_marks_ahead_of_the_one_gone_back_to_are_still_there(self):
        deeds = (("mark", "m"), self.add[5], ("mark", "n"), self.add[6], ("mark", "o"), self.add[7], ("back", "n"))
        self.comes(deeds, self.with_rows(5))
        self.comes(deeds + (("back", "m"),), STORE)
        self.is_refused(NoMark, 7, deeds + (("back", "o"),))

    def test_a_return_without_its_mark(self):
        self.is_refused(NoMark, 0, (("back", "m"),))
        self.is_refused(NoMark, 0, (("back", "m"), ("mark", "m")))
        self.is_refused(NoMark, 2, (("mark", "n"), self.add[5], ("back", "m")))
        self.is_refused(NoMark, 2, (("mark", "m"), ("back", "m"), ("back", "mm")))

    def test_marks_of_another_deal_do_not_count(self):
        behind = deal(SCHEMA, STORE, (("mark", "m"), self.add[5]))
        self.is_refused(NoMark, 0, (("back", "m"),), store=behind)

    def test_a_name_of_a_table_may_be_a_mark(self):
        self.comes((("mark", "a"), self.add[5], ("mark", "add"), self.add[6], ("back", "a")), STORE)

    def test_back_with_a_late_rule_broken_at_the_mark(self):
        deeds = (("add", "b", row(5, 9)), ("mark", "m"), ("add", "b", row(9)), ("back", "m"))
        self.is_refused(NoRef, 4, deeds)
        self.comes(deeds[:3], (STORE[0], STORE[1] + (row(5, 9), row(9))))
        self.comes(deeds + (("drop", "b", (5,)),), STORE)


class AfterAll(DealCase):
    """5.1: after_all."""

    def test_no_deals(self):
        self.told((STORE, ()), after_all, SCHEMA, STORE, ())

    def test_deals_without_deeds(self):
        self.told((STORE, ()), after_all, SCHEMA, STORE, ((), ()))

    def test_one_behind_the_other(self):
        deals = ((("add", "b", row(5)),), (("add", "a", row(5, 5)), ("drop", "a", (2,))), (("set", "a", (5,), (("x", 1),)),))
        self.told((((row(1, 1, 1, "p"), row(5, 1)), (row(1), row(5))), ()), after_all, SCHEMA, STORE, deals)

    def test_those_that_are_refused_are_left_out_and_told(self):
        deals = ((("drop", "a", (9,)),), (("add", "b", row(5)),), (("add", "b", row(6)), ("drop", "b", (1,))),
                 (("add", "a", row(5, 5)),), (("add", "b", row(7, 8)),), (("back", "m"),), (("add", "b", row(8, 5)),))
        self.told(((STORE[0] + (row(5, 5),), STORE[1] + (row(5), row(8, 5))), (0, 2, 4, 5)),
                  after_all, SCHEMA, STORE, deals)

    def test_each_refusal(self):
        deals = tuple([(deed,) for error, deed in REFUSED])
        self.told((STORE, tuple(range(len(REFUSED)))), after_all, SCHEMA, STORE, deals)

    def test_a_deal_can_be_done_by_what_those_ahead_of_it_did(self):
        first = (("add", "b", row(5)),)
        second = (("add", "a", row(5, 5)),)
        self.told(((STORE[0] + (row(5, 5),), STORE[1] + (row(5),)), ()), after_all, SCHEMA, STORE, (first, second))
        self.told(((STORE[0], STORE[1] + (row(5),)), (0,)), after_all, SCHEMA, STORE, (second, first))
        self.told(((STORE[0] + (row(5, 5),), STORE[1] + (row(5),)), (0, 3)), after_all, SCHEMA, STORE,
                  (second, first, second, second))

    def test_a_refused_deal_leaves_nothing_of_itself(self):
        half = (("add", "b", row(5)), ("add", "a", row(1)))
        self.told((STORE, (0, 1)), after_all, SCHEMA, STORE, (half, (("add", "a", row(5, 5)),)))

    def test_marks_do_not_last_beyond_their_deal(self):
        deals = ((("mark", "m"), ("add", "b", row(5))), (("back", "m"),))
        self.told(((STORE[0], STORE[1] + (row(5),)), (1,)), after_all, SCHEMA, STORE, deals)


class AllKinds(DealCase):
    """5.1, 0.2 (c) and (e): of all kinds of schemas, stores and deals."""

    def made(self, seed, many):
        rolled = dice(seed)
        for k in range(many):
            schema = made_schema(rolled)
            store = made_good_store(rolled, schema)
            for turn in range(3):
                yield rolled, schema, store, made_deal(rolled, schema, store)

    def test_against_deals_done_once_more_from_the_start(self):
        seen = {}
        for rolled, schema, store, deeds in self.made(71, 400):
            told = plain_deal(schema, store, deeds)
            if isinstance(told[0], str):
                self.refused(getattr(errors, told[0]), told[1], deal, schema, store, deeds)
                seen[told[0], told[1] == len(deeds)] = True
            else:
                self.told(told, deal, schema, store, deeds)
                self.assertEqual(breaks(schema, told), ())
                seen["back" in [step[0] for step in deeds], told == store] = True
        for kind in (("NoRow", False), ("Twice", False), ("NoRef", False), ("NoRef", True), ("NoMark", False),
                     ("BadCheck", False), ("Held", False), (True, True), (True, False), (False, True), (False, False)):
            self.assertIn(kind, seen)

    def test_back_to_a_mark_is_as_if_all_behind_it_had_not_been(self):
        many = 0
        for rolled, schema, store, deeds in self.made(72, 150):
            plain = tuple([step for step in deeds if step[0] not in ("mark", "back")])
            for cut in range(len(plain) + 1):
                marked = plain[:cut] + (("mark", "q"),) + plain[cut:] + (("back", "q"),)
                if not isinstance(plain_deal(schema, store, plain)[0], str):
                    ahead = self.answer(deal, schema, store, plain[:cut])
                    behind = self.answer(deal, schema, store, marked)
                    self.assertEqual(ahead[:2], behind[:2])
                    many += ahead[0] == "told"
        self.assertGreater(many, 300)

    def test_deals_one_behind_the_other_come_to_what_all_their_deeds_come_to(self):
        many = 0
        for rolled, schema, store, deeds in self.made(73, 150):
            first = self.answer(deal, schema, store, deeds)
            if first[0] == "told":
                more = made_deal(rolled, schema, first[1])
                second = self.answer(deal, schema, first[1], more)
                if second[0] == "told":
                    self.told(second[1], deal, schema, store, deeds + more)
                    many += 1
                self.assertEqual(after_all(schema, store, (deeds, more))[1], () if second[0] == "told" else (1,))
        self.assertGreater(many, 150)

    def test_after_all_is_each_deal_in_turn(self):
        rolled = dice(74)
        lengths = []
        for k in range(120):
            schema = made_schema(rolled)
            store = made_good_store(rolled, schema)
            deals = tuple([made_deal(rolled, schema, store) for turn in range(5)])
            now = store
            left_out = []
            for number, deeds in enumerate(deals):
                told = plain_deal(schema, now, deeds)
                if isinstance(told[0], str):
                    left_out.append(number)
                else:
                    now = told
            self.told((now, tuple(left_out)), after_all, schema, store, deals)
            lengths.append(len(left_out))
        self.assertTrue(0 in lengths and max(lengths) > 2)


if __name__ == "__main__":
    unittest.main()
