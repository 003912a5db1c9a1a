"""Deals: deeds that are done whole or not at all, with marks to go back to."""

from dealtables.breaking import breaks
from dealtables.doing import done, is_late
from dealtables.errors import BadCheck, DealError, Held, NoMark, NoRef, NoRow, Twice
from dealtables.schemas import table_of


def deal(schema, store, deeds):
    now = store
    marks = []
    for at, step in enumerate(deeds):
        if step[0] == "mark":
            marks.append((step[1], now))
        elif step[0] == "back":
            marks = marks_up_to(marks, step[1], at)
            now = marks[-1][1]
        else:
            now = done_at(schema, now, step, at)
    refuse_broken_late(schema, now, len(deeds))
    return now


def marks_up_to(marks, name, at):
    for many in range(len(marks), 0, -1):
        if marks[many - 1][0] == name:
            return marks[:many]
    raise NoMark("there is no mark with this name", at)


# What done refuses knows nothing of the deal around it, so each refusal is told anew with its place.
def done_at(schema, store, deed, at):
    try:
        return done(schema, store, deed)
    except NoRow as error:
        raise NoRow(str(error), at) from error
    except Held as error:
        raise Held(str(error), at) from error
    except Twice as error:
        raise Twice(str(error), at) from error
    except BadCheck as error:
        raise BadCheck(str(error), at) from error
    except NoRef as error:
        raise NoRef(str(error), at) from error


def refuse_broken_late(schema, store, at):
    for name, number, key in breaks(schema, store):
        if is_late(table_of(schema, name)[3][number]):
            raise NoRef("a row still refers to one that is not there", at)


def after_all(schema, store, deals):
    now = store
    refused = []
    for number, deeds in enumerate(deals):
        try:
            now = deal(schema, now, deeds)
        except DealError:
            refused.append(number)
    return (now, tuple(refused))
