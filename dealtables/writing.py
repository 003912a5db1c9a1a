"""Schemas as texts."""


def written(schema):
    return with_row_ends(lines_of_schema(schema))


def with_row_ends(lines):
    return "".join([f"{line}\n" for line in lines])


def lines_of_schema(schema):
    lines = []
    for table in schema:
        lines.append(" ".join(["table", table[0], "key"] + list(table[2])))
        for column in table[1]:
            lines.append(" " + written_column(column))
        for rule in table[3]:
            lines.append(" " + written_rule(rule))
    return lines


def written_column(column):
    words = ["column", column[0], column[1]]
    if column[2]:
        words.append("?")
    return " ".join(words)


def written_rule(rule):
    if rule[0] == "check":
        return "check " + written_test(rule[1])
    words = [rule[0]] + list(rule[1])
    if rule[0] == "refers":
        words.extend(["to", rule[2], rule[3]])
    return " ".join(words)


def written_test(test):
    if test[0] == "is":
        return " ".join(["is", test[1], written_worth(test[2])])
    if test[0] == "below" or test[0] == "empty":
        return " ".join(test)
    return " ".join([test[0]] + [written_test(part) for part in test[1:]])


def written_worth(worth):
    if worth is None:
        return "?"
    if isinstance(worth, str):
        return "'" + worth
    return str(worth)
