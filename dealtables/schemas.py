"""What a schema is, with its tables, rules and tests, and what its rows and stores are."""

LETTERS = "abcdefghijklmnopqrstuvwxyz"
FIGURES = "0123456789"
KINDS = ("whole", "text")
WAYS = ("stop", "late", "along", "gap")
DEEPEST_TEST = 4


def is_tuple_of(thing, fewest, most):
    return isinstance(thing, tuple) and fewest <= len(thing) <= most


def is_text_of(thing, fewest, most, signs):
    if not isinstance(thing, str) or not fewest <= len(thing) <= most:
        return False
    return all([sign in signs for sign in thing])


def is_name(thing):
    return is_text_of(thing, 1, 6, LETTERS)


def is_worth(kind, thing):
    if kind == "text":
        return is_text_of(thing, 0, 6, LETTERS + FIGURES)
    # Python counts truths among its ints, the document does not.
    if not isinstance(thing, int) or isinstance(thing, bool):
        return False
    return -999 <= thing <= 999


def may_stand(column, thing):
    if thing is None:
        return column[2]
    return is_worth(column[1], thing)


def are_unlike(names):
    return len(set(names)) == len(names)


def table_of(schema, name):
    for table in schema:
        if table[0] == name:
            return table
    return None


def column_of(table, name):
    for column in table[1]:
        if column[0] == name:
            return column
    return None


def columns_of(table, names):
    return [column_of(table, name) for name in names]


def kinds_of(table, names):
    return [column[1] for column in columns_of(table, names)]


def worths_of(table, row, names):
    places = [column[0] for column in table[1]]
    return tuple([row[places.index(name)] for name in names])


def is_test(table, thing):
    return is_test_within(table, thing, DEEPEST_TEST)


def is_test_within(table, thing, deepest):
    if deepest == 0 or not is_tuple_of(thing, 2, 3):
        return False
    if thing[0] == "not":
        return len(thing) == 2 and is_test_within(table, thing[1], deepest - 1)
    if thing[0] == "and" or thing[0] == "or":
        return len(thing) == 3 and all([is_test_within(table, part, deepest - 1) for part in thing[1:]])
    return is_plain_test(table, thing)


def is_plain_test(table, thing):
    column = column_of(table, thing[1])
    if column is None:
        return False
    if thing[0] == "empty":
        return len(thing) == 2
    if len(thing) != 3:
        return False
    if thing[0] == "is":
        return is_worth(column[1], thing[2])
    if thing[0] == "below":
        other = column_of(table, thing[2])
        return other is not None and other[1] == column[1]
    return False


def is_schema(thing):
    if not is_tuple_of(thing, 1, 4) or not all([is_bare_table(table) for table in thing]):
        return False
    if not are_unlike([table[0] for table in thing]):
        return False
    return all([are_rules(thing, table) for table in thing])


# Rules may refer to tables behind their own, so they are looked at once all tables are known to be sound.
def is_bare_table(thing):
    if not is_tuple_of(thing, 4, 4):
        return False
    return is_name(thing[0]) and are_columns(thing[1]) and is_key(thing, thing[2])


def are_columns(thing):
    if not is_tuple_of(thing, 1, 4) or not all([is_column(column) for column in thing]):
        return False
    return are_unlike([column[0] for column in thing])


def is_column(thing):
    if not is_tuple_of(thing, 3, 3):
        return False
    return is_name(thing[0]) and thing[1] in KINDS and isinstance(thing[2], bool)


def is_key(table, thing):
    return are_names_of_columns(table, thing) and not any([column[2] for column in columns_of(table, thing)])


def are_names_of_columns(table, thing):
    if not is_tuple_of(thing, 1, 2) or None in columns_of(table, thing):
        return False
    return are_unlike(thing)


def are_rules(schema, table):
    rules = table[3]
    return is_tuple_of(rules, 0, 3) and all([is_rule(schema, table, rule) for rule in rules])


def is_rule(schema, table, thing):
    if is_tuple_of(thing, 2, 2):
        if thing[0] == "check":
            return is_test(table, thing[1])
        return thing[0] == "unlike" and are_names_of_columns(table, thing[1])
    return is_tuple_of(thing, 4, 4) and thing[0] == "refers" and is_reference(schema, table, thing)


def is_reference(schema, table, rule):
    names = rule[1]
    way = rule[3]
    target = table_of(schema, rule[2])
    if target is None or way not in WAYS or not are_names_of_columns(table, names):
        return False
    if way == "gap" and not all([column[2] for column in columns_of(table, names)]):
        return False
    return kinds_of(table, names) == kinds_of(target, target[2])


def is_row(table, thing):
    columns = table[1]
    if not isinstance(thing, tuple) or len(thing) != len(columns):
        return False
    return all([may_stand(column, worth) for column, worth in zip(columns, thing)])


def is_store(schema, thing):
    if not isinstance(thing, tuple) or len(thing) != len(schema):
        return False
    return all([are_rows(table, rows) for table, rows in zip(schema, thing)])


def store_without_rows(schema):
    return tuple([() for table in schema])


def are_rows(table, thing):
    if not isinstance(thing, tuple) or not all([is_row(table, row) for row in thing]):
        return False
    keys = [worths_of(table, row, table[2]) for row in thing]
    return all([one < other for one, other in zip(keys, keys[1:])])
