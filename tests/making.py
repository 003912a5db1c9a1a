"""Schemas, rows, stores and deeds by the dozen, the same ones each time."""

import random

from dealtables.breaking import breaks, key_of
from dealtables.dealing import deal
from dealtables.errors import DealError

NAMES = ("a", "b", "to", "is", "key", "table", "abcdef", "z")
WHOLES = (-999, -10, -1, 0, 1, 2, 999)
TEXTS = ("", "0", "7", "a", "b", "zz", "abc999")


def dice(seed):
    return random.Random(seed)


def made_worth(rolled, kind):
    """A worth of few, so that rows are alike and refer to one another often."""
    return rolled.choice(WHOLES[2:6] if kind == "whole" else TEXTS[:5])


def made_wide_worth(rolled, kind):
    return rolled.choice(WHOLES if kind == "whole" else TEXTS)


def made_columns(rolled):
    names = rolled.sample(NAMES, rolled.randint(1, 4))
    columns = [(name, rolled.choice(("whole", "whole", "text")), rolled.random() < 0.6) for name in names]
    for k in range(min(2, len(columns))):
        if k == 0 or rolled.random() < 0.5:
            columns[k] = columns[k][:2] + (False,)
    rolled.shuffle(columns)
    return tuple(columns)


def made_key(rolled, columns):
    names = [column[0] for column in columns if not column[2]]
    return tuple(rolled.sample(names, 2 if len(names) > 1 and rolled.random() < 0.3 else 1))


def made_test(rolled, columns, deepest=4):
    word = rolled.choice(("is", "below", "empty", "not", "and", "or"))
    if deepest > 1 and word == "not":
        return (word, made_test(rolled, columns, deepest - 1))
    if deepest > 1 and word in ("and", "or"):
        return (word, made_test(rolled, columns, deepest - 1), made_test(rolled, columns, deepest - 1))
    column = rolled.choice(columns)
    if word == "is":
        return (word, column[0], made_wide_worth(rolled, column[1]))
    if word == "below":
        return (word, column[0], rolled.choice([other[0] for other in columns if other[1] == column[1]]))
    return ("empty", column[0])


def made_reference(rolled, table, tables):
    """A rule of refers, or None where the columns do not fit the key."""
    target = rolled.choice(tables)
    kinds = [column[1] for name in target[2] for column in target[1] if column[0] == name]
    columns = rolled.sample(table[1], min(len(kinds), len(table[1])))
    if [column[1] for column in columns] != kinds:
        return None
    way = rolled.choice(("stop", "late", "along", "along", "gap", "gap"))
    if way == "gap" and not all([column[2] for column in columns]):
        way = "along"
    return ("refers", tuple([column[0] for column in columns]), target[0], way)


def made_rule(rolled, table, tables):
    word = rolled.choice(("check", "unlike", "refers", "refers", "refers", "refers", "refers"))
    if word == "check":
        return (word, made_test(rolled, table[1]))
    if word == "unlike":
        names = [column[0] for column in table[1]]
        return (word, tuple(rolled.sample(names, rolled.randint(1, min(2, len(names))))))
    return made_reference(rolled, table, tables)


def made_schema(rolled):
    tables = []
    for name in rolled.sample(NAMES, rolled.randint(1, 4)):
        columns = made_columns(rolled)
        tables.append((name, columns, made_key(rolled, columns)))
    return tuple([table + (made_rules(rolled, table, tables),) for table in tables])


def made_rules(rolled, table, tables):
    rules = [made_rule(rolled, table, tables) for k in range(rolled.randint(1, 9))]
    return tuple([rule for rule in rules if rule is not None][:3])


def made_row(rolled, table):
    return tuple([None if gaps and rolled.random() < 0.3 else made_worth(rolled, kind)
                  for name, kind, gaps in table[1]])


def made_store(rolled, schema):
    """Rows alone, whatever rules they break."""
    store = []
    for table in schema:
        rows = {}
        for k in range(rolled.randint(0, 12)):
            row = made_row(rolled, table)
            rows[key_of(table, row)] = row
        store.append(tuple([rows[key] for key in sorted(rows)]))
    return tuple(store)


def made_deed(rolled, schema, store):
    at = rolled.randrange(len(schema))
    table = schema[at]
    word = rolled.choice(("add", "drop", "drop", "set"))
    if word == "add":
        return (word, table[0], made_row(rolled, table))
    rows = store[at] + (made_row(rolled, table),)
    key = key_of(table, rolled.choice(rows))
    free = [column for column in table[1] if column[0] not in table[2]]
    if word == "drop" or not free:
        return ("drop", table[0], key)
    chosen = rolled.sample(free, rolled.randint(1, len(free)))
    pairs = [(name, None if gaps and rolled.random() < 0.3 else made_worth(rolled, kind))
             for name, kind, gaps in chosen]
    return (word, table[0], key, tuple(pairs[:3]))


def mended(schema, store, but="late"):
    """The store without its rows that break rules, but refers of late, or of another way."""
    broken = [(name, key) for name, number, key in breaks(schema, store)
              if [table for table in schema if table[0] == name][0][3][number][-1] != but]
    left = tuple([tuple([row for row in rows if (table[0], key_of(table, row)) not in broken])
                  for table, rows in zip(schema, store)])
    return mended(schema, left, but) if broken else left


def made_good_store(rolled, schema):
    """A store that breaks no rules."""
    return mended(schema, made_store(rolled, schema), None)


def deal_or_none(schema, store, deeds):
    try:
        return deal(schema, store, deeds)
    except DealError:
        return None


def made_step(rolled, schema, now, marks):
    """A deed, a mark or a return, mostly to a mark that there is."""
    turn = rolled.random()
    if turn < 0.15:
        return ("mark", rolled.choice("mno"))
    if turn < 0.3 and (marks or turn < 0.17):
        return ("back", rolled.choice(marks or "mno"))
    return made_deed(rolled, schema, now)


def made_deal(rolled, schema, store, most=7):
    """A deal whose steps can mostly be done on the store, one behind the other."""
    steps = ()
    now = store
    for k in range(rolled.randint(0, most)):
        marks = [step[1] for step in steps if step[0] == "mark"]
        tries = [steps + (made_step(rolled, schema, now, marks),) for turn in range(4)]
        can_be_done = [each for each in tries if deal_or_none(schema, store, each) is not None]
        steps = (can_be_done if can_be_done and rolled.random() < 0.95 else tries)[0]
        now = deal_or_none(schema, store, steps) or now
    return steps


def made_cases(seed, many, deeds):
    """Triples of a schema, a store that breaks no rules but refers of late, and a deed to be done on it."""
    rolled = dice(seed)
    cases = []
    for k in range(many):
        schema = made_schema(rolled)
        store = mended(schema, made_store(rolled, schema))
        cases.extend([(schema, store, made_deed(rolled, schema, store)) for turn in range(deeds)])
    return cases
