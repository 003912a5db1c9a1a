"""Rows and their keys, what rows refer to, and which rules a store breaks."""

from dealtables.errors import NoRow
from dealtables.holding import holds
from dealtables.schemas import table_of, worths_of


def key_of(table, row):
    return worths_of(table, row, table[2])


def rows_of(schema, store, name):
    for table, rows in zip(schema, store):
        if table[0] == name:
            return rows
    return ()


def rows_by_key(schema, store, name):
    table = table_of(schema, name)
    return dict([(key_of(table, row), row) for row in rows_of(schema, store, name)])


def row_of(schema, store, name, key):
    table = table_of(schema, name)
    for row in rows_of(schema, store, name):
        if is_same_key(key_of(table, row), key):
            return row
    raise NoRow("the table has no row with this key")


# Python takes a truth for 0 or 1, the document does not.
def is_same_key(key, thing):
    return key == thing and not any([isinstance(worth, bool) for worth in thing])


def kept(table, row, number):
    return is_kept(table, row, table[3][number])


def is_kept(table, row, rule):
    return holds(table, rule[1], row) is not False


def key_referred_to(table, rule, row):
    worths = worths_of(table, row, rule[1])
    if None in worths:
        return None
    return worths


# Each a triple: the pair of name and key of a row, a rule by which it refers, and the pair to which it does.
def references_of(schema, store):
    found = []
    for table, rows in zip(schema, store):
        for rule in table[3]:
            if rule[0] == "refers":
                found.extend(references_by(table, rule, rows))
    return found


def references_by(table, rule, rows):
    found = []
    for row in rows:
        key = key_referred_to(table, rule, row)
        if key is not None:
            found.append(((table[0], key_of(table, row)), rule, (rule[2], key)))
    return found


def breaks(schema, store):
    found = []
    for table in schema:
        for number, rule in enumerate(table[3]):
            for key in keys_that_break(schema, store, table, rule):
                found.append((table[0], number, key))
    return tuple(sorted(found))


def is_good(schema, store):
    return len(breaks(schema, store)) == 0


def keys_that_break(schema, store, table, rule):
    rows = rows_of(schema, store, table[0])
    if rule[0] == "check":
        return [key_of(table, row) for row in rows if not is_kept(table, row, rule)]
    if rule[0] == "unlike":
        return keys_alike(table, rule, rows)
    return keys_referring_to_none(schema, store, table, rule)


def keys_alike(table, rule, rows):
    keys = {}
    for row in rows:
        worths = worths_of(table, row, rule[1])
        if None not in worths:
            keys.setdefault(worths, []).append(key_of(table, row))
    found = []
    for alike in keys.values():
        if len(alike) > 1:
            found.extend(alike)
    return found


def keys_referring_to_none(schema, store, table, rule):
    there = rows_by_key(schema, store, rule[2])
    references = references_by(table, rule, rows_of(schema, store, table[0]))
    return [source[1] for source, by, aim in references if aim[1] not in there]
