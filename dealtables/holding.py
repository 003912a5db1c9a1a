"""Whether a test holds of a row: True, False, or None where a gap leaves it open."""

from dealtables.schemas import worths_of


def holds(table, test, row):
    word = test[0]
    if word == "not":
        return opposite(holds(table, test[1], row))
    if word == "and" or word == "or":
        return joined(word == "or", [holds(table, part, row) for part in test[1:]])
    if word == "empty":
        return worths_of(table, row, test[1:]) == (None,)
    if word == "is":
        return compared(word, worths_of(table, row, test[1:2]) + test[2:])
    return compared(word, worths_of(table, row, test[1:]))


def opposite(answer):
    if answer is None:
        return None
    return not answer


# One False settles an "and", one True an "or", whatever is open beside it.
def joined(settling, answers):
    if settling in answers:
        return settling
    if None in answers:
        return None
    return not settling


def compared(word, worths):
    if None in worths:
        return None
    if word == "is":
        return worths[0] == worths[1]
    return worths[0] < worths[1]
