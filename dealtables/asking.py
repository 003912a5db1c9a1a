"""Questions to a store: which rows a test picks, what they refer to, what refers to them, how many are alike."""

from dealtables.breaking import key_referred_to, references_by, row_of, rows_by_key, rows_of
from dealtables.holding import holds
from dealtables.schemas import table_of, worths_of


def picked(schema, store, name, test):
    table = table_of(schema, name)
    return tuple([row for row in rows_of(schema, store, name) if holds(table, test, row) is True])


def matched(schema, store, name, number):
    table = table_of(schema, name)
    rule = table[3][number]
    aims = rows_by_key(schema, store, rule[2])
    return tuple([(row, aims.get(key_referred_to(table, rule, row))) for row in rows_of(schema, store, name)])


def referring(schema, store, name, key):
    # Asked for its NoRow alone: rows may well refer to one that is not there.
    row_of(schema, store, name, key)
    found = []
    for table, rows in zip(schema, store):
        for number, rule in enumerate(table[3]):
            if rule[0] == "refers":
                references = references_by(table, rule, rows)
                found.extend([(table[0], number, source[1]) for source, by, aim in references if aim == (name, key)])
    return tuple(sorted(found))


def grouped(schema, store, name, column):
    table = table_of(schema, name)
    counts = {}
    for row in rows_of(schema, store, name):
        worth = worths_of(table, row, (column,))[0]
        counts[worth] = counts.get(worth, 0) + 1
    gaps = counts.pop(None, 0)
    return (tuple(sorted(counts.items())), gaps)
