"""Stores out of logs: what comes back of a log, wherever it is cut, and where a spoilt one is spoilt."""

from dealtables.breaking import is_good, key_of
from dealtables.dealing import deal
from dealtables.doing import is_deed
from dealtables.errors import BadLog, DealError, NoText
from dealtables.logs import written_base, written_deed, written_end
from dealtables.reading import worth_from
from dealtables.schemas import is_name, store_without_rows, table_of
from dealtables.writing import with_row_ends


def back_from(schema, text):
    # Only a row end makes a row whole, so what stands behind the last one is none.
    lines = text.split("\n")[:-1]
    store = store_without_rows(schema)
    whole = 0
    first = 0
    while first < len(lines):
        deeds = deeds_behind(schema, lines, first)
        last = first + 1 + len(deeds)
        if last == len(lines):
            break
        ask_for_end(lines, first, last)
        store = store_behind(schema, store, lines[first], deeds, last)
        whole += len(with_row_ends(lines[first:last + 1]))
        first = last + 1
    return (store, whole)


def thinned(schema, text):
    return written_base(schema, back_from(schema, text)[0])


# A base or deal whose end has not come is read like a whole one: a row that can not stand in it is told all the same.
def deeds_behind(schema, lines, first):
    if lines[first] != "deal" and (lines[first] != "base" or first > 0):
        raise BadLog("neither a base nor a deal can begin with this row here", first)
    deeds = []
    for at in range(first + 1, len(lines)):
        if lines[at].startswith("end"):
            break
        deeds.append(deed_from(schema, lines[at], at))
        if lines[first] == "base":
            refuse_out_of_turn(schema, deeds, at)
    return deeds


def ask_for_end(lines, first, last):
    if lines[last] != written_end(with_row_ends(lines[first:last])):
        raise BadLog("this row is not the end of the rows ahead of it", last)


def refuse_out_of_turn(schema, deeds, at):
    if deeds[-1][0] != "add":
        raise BadLog("a base has rows to be added alone", at)
    places = [place_in_base(schema, deed) for deed in deeds[-2:]]
    if len(places) == 2 and places[0] >= places[1]:
        raise BadLog("the rows of a base are not in their turn", at)


def place_in_base(schema, deed):
    names = [table[0] for table in schema]
    return (names.index(deed[1]), key_of(table_of(schema, deed[1]), deed[2]))


def store_behind(schema, store, head, deeds, at):
    if head == "base":
        return store_of_base(schema, deeds, at)
    try:
        return deal(schema, store, tuple(deeds))
    except DealError as error:
        raise BadLog("the deal that ends here is refused", at) from error


def store_of_base(schema, deeds, at):
    store = tuple([rows_added(deeds, table[0]) for table in schema])
    if not is_good(schema, store):
        raise BadLog("the base that ends here breaks rules", at)
    return store


def rows_added(deeds, name):
    return tuple([deed[2] for deed in deeds if deed[1] == name])


# Only the one deed is found that the row could be of; whether it is of it, its own writing tells.
def deed_from(schema, line, at):
    try:
        deed = deed_of(line.split(" "))
    except NoText as error:
        raise BadLog("a worth is written in no way that there is", at) from error
    if not (is_deed(schema, deed) or is_mark(deed)) or written_deed(deed) != line:
        raise BadLog("this row is no deed's writing", at)
    return deed


def is_mark(thing):
    return len(thing) == 2 and (thing[0] == "mark" or thing[0] == "back") and is_name(thing[1])


def deed_of(words):
    if len(words) < 3:
        return tuple(words)
    if ":" not in words:
        return (words[0], words[1], worths_from(words[2:]))
    colon = words.index(":")
    return (words[0], words[1], worths_from(words[2:colon]), pairs_from(words[colon + 1:]))


def worths_from(words):
    return tuple([worth_from(word) for word in words])


# Of an odd number of words the last one is left out here; it is missed when the deed is written.
def pairs_from(words):
    return tuple([(column, worth_from(word)) for column, word in zip(words[::2], words[1::2])])
