"""Logs as texts: deeds, bases and deals as they are written, with their sums."""

from dealtables.writing import with_row_ends, written_worth


def sum_of(text):
    number = 0
    for sign in text:
        number = (31 * number + ord(sign)) % 9973
    return str(number).zfill(4)


def written_base(schema, store):
    deeds = []
    for table, rows in zip(schema, store):
        deeds.extend([("add", table[0], row) for row in rows])
    return written_part("base", deeds)


def written_deal(deeds):
    return written_part("deal", deeds)


def written_part(head, deeds):
    text = with_row_ends([head] + [written_deed(deed) for deed in deeds])
    return text + with_row_ends([written_end(text)])


def written_end(text):
    return "end " + sum_of(text)


def written_deed(deed):
    if deed[0] == "mark" or deed[0] == "back":
        return " ".join(deed)
    words = [deed[0], deed[1]] + [written_worth(worth) for worth in deed[2]]
    if deed[0] == "set":
        words.append(":")
        for column, worth in deed[3]:
            words.extend([column, written_worth(worth)])
    return " ".join(words)
