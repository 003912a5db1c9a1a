"""Cases in which each question is asked twice, and what is handed in is looked at again behind it."""

import unittest

from dealtables.errors import DealError

PLAIN_KINDS = (tuple, str, int, bool, type(None))


def answer_of(question, things):
    """What is told, or the refusal as a triple of its class, its at and its how."""
    try:
        return ("told", question(*things))
    except DealError as error:
        return ("refused", type(error), error.at, getattr(error, "how", None))


def kinds_within(thing):
    if not isinstance(thing, tuple):
        return [type(thing)]
    return [type(thing)] + [kind for part in thing for kind in kinds_within(part)]


class AskedCase(unittest.TestCase):
    def answer(self, question, *things):
        # The texts tell truths from whole numbers and lists from tuples, which == of worths does not.
        ahead = repr(things)
        answers = [answer_of(question, things) for turn in range(2)]
        self.assertEqual(repr(things), ahead)
        self.assertEqual(repr(answers[0]), repr(answers[1]))
        return answers[0]

    def ask(self, question, *things):
        answer = self.answer(question, *things)
        self.assertEqual(answer[0], "told", answer)
        for kind in kinds_within(answer[1]):
            self.assertIn(kind, PLAIN_KINDS)
        return answer[1]

    def told(self, expected, question, *things):
        self.assertEqual(repr(self.ask(question, *things)), repr(expected))

    def refused(self, error, at, question, *things):
        answer = self.answer(question, *things)
        self.assertEqual(answer[:3], ("refused", error, at))
        self.assertIs(type(answer[2]), int)
