"""Deeds: what they are, what goes when a row goes, and the store that comes of a deed."""

from dealtables.breaking import breaks, key_of, references_of, row_of, rows_of
from dealtables.errors import BadCheck, Held, NoRef, Twice
from dealtables.schemas import are_unlike, column_of, is_row, is_tuple_of, is_worth, kinds_of, may_stand, table_of


def is_deed(schema, thing):
    if not is_tuple_of(thing, 3, 4):
        return False
    table = table_of(schema, thing[1])
    if table is None:
        return False
    if thing[0] == "set":
        return len(thing) == 4 and are_worths_of_key(table, thing[2]) and are_pairs(table, thing[3])
    if len(thing) != 3:
        return False
    if thing[0] == "add":
        return is_row(table, thing[2])
    return thing[0] == "drop" and are_worths_of_key(table, thing[2])


def are_worths_of_key(table, thing):
    kinds = kinds_of(table, table[2])
    if not is_tuple_of(thing, len(kinds), len(kinds)):
        return False
    return all([is_worth(kind, worth) for kind, worth in zip(kinds, thing)])


def are_pairs(table, thing):
    if not is_tuple_of(thing, 1, 3) or not all([is_pair(table, pair) for pair in thing]):
        return False
    return are_unlike([pair[0] for pair in thing])


def is_pair(table, thing):
    if not is_tuple_of(thing, 2, 2) or thing[0] in table[2]:
        return False
    column = column_of(table, thing[0])
    return column is not None and may_stand(column, thing[1])


def going(schema, store, name, key):
    references = references_of(schema, store)
    gone = gone_with(schema, store, references, name, key)
    return (tuple(sorted(gone)), tuple(sorted(gaps_by(references, gone))))


def gone_with(schema, store, references, name, key):
    row = row_of(schema, store, name, key)
    gone = along_with(references, (name, key_of(table_of(schema, name), row)))
    for source, rule, target in references:
        if rule[3] == "stop" and target in gone and source not in gone:
            raise Held("a row that stays refers to one that would go")
    return gone


def along_with(references, first):
    followers = {}
    for source, rule, target in references:
        if rule[3] == "along":
            followers.setdefault(target, []).append(source)
    gone = {first: True}
    waiting = [first]
    while waiting:
        target = waiting.pop()
        for source in followers.get(target, []):
            if source not in gone:
                gone[source] = True
                waiting.append(source)
    return gone


# Told of all rules at once: a gap that one rule puts must not hide what another one referred to.
def gaps_by(references, gone):
    gaps = {}
    for source, rule, target in references:
        if rule[3] == "gap" and target in gone and source not in gone:
            worths = gaps.setdefault(source, {})
            for column in rule[1]:
                worths[column] = None
    return gaps


def done(schema, store, deed):
    if deed[0] == "add":
        after = with_row(schema, store, deed[1], deed[2])
    elif deed[0] == "drop":
        after = without_row(schema, store, deed[1], deed[2])
    else:
        after = with_pairs(schema, store, deed[1], deed[2], deed[3])
    refuse_broken(schema, after)
    return after


def with_row(schema, store, name, row):
    table = table_of(schema, name)
    rows = rows_of(schema, store, name)
    if key_of(table, row) in [key_of(table, other) for other in rows]:
        raise Twice("the table has a row with this key")
    rising = tuple(sorted(rows + (row,), key=lambda one: key_of(table, one)))
    return tuple([rising if other[0] == name else others for other, others in zip(schema, store)])


def without_row(schema, store, name, key):
    references = references_of(schema, store)
    gone = gone_with(schema, store, references, name, key)
    return changed(schema, store, gone, gaps_by(references, gone))


def with_pairs(schema, store, name, key, pairs):
    row = row_of(schema, store, name, key)
    place = (name, key_of(table_of(schema, name), row))
    return changed(schema, store, {}, {place: dict(pairs)})


def changed(schema, store, gone, changes):
    return tuple([rows_left(table, rows, gone, changes) for table, rows in zip(schema, store)])


def rows_left(table, rows, gone, changes):
    left = []
    for row in rows:
        place = (table[0], key_of(table, row))
        if place not in gone:
            left.append(row_with(table, row, changes.get(place, {})))
    return tuple(left)


def row_with(table, row, worths):
    return tuple([worths.get(column[0], worth) for column, worth in zip(table[1], row)])


def refuse_broken(schema, store):
    broken = {}
    for name, number, key in breaks(schema, store):
        rule = table_of(schema, name)[3][number]
        if not is_late(rule):
            broken[rule[0]] = True
    if "unlike" in broken:
        raise Twice("two rows are alike where they must not be")
    if "check" in broken:
        raise BadCheck("a row does not keep a check")
    if "refers" in broken:
        raise NoRef("a row refers to one that is not there")


def is_late(rule):
    return rule[0] == "refers" and rule[3] == "late"
