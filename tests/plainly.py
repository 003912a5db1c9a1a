"""The document's points once more, by looking at all rows at every turn.

The package's answers are held against what is told here.
"""

import re


def worth_in(table, row, name):
    return [worth for column, worth in zip(table[1], row) if column[0] == name][0]


def worths_in(table, row, names):
    return tuple([worth_in(table, row, name) for name in names])


def plain_key(table, row):
    return worths_in(table, row, table[2])


def every_row(schema, store):
    return [(table, row) for table, rows in zip(schema, store) for row in rows]


def refers_by(table, row, rule, aim, aimed):
    """Whether row of table refers by this rule to the row aimed of the table aim."""
    worths = worths_in(table, row, rule[1])
    return rule[2] == aim[0] and None not in worths and worths == plain_key(aim, aimed)


def plain_holds(table, test, row):
    word = test[0]
    if word == "empty":
        return worth_in(table, row, test[1]) is None
    if word in ("is", "below"):
        one = worth_in(table, row, test[1])
        other = test[2] if word == "is" else worth_in(table, row, test[2])
        if one is None or other is None:
            return None
        return one == other if word == "is" else one < other
    # False, open and True as 0, 1 and 2: "not" turns them over, "and" takes the least, "or" the most.
    ranks = [{False: 0, None: 1, True: 2}[plain_holds(table, part, row)] for part in test[1:]]
    rank = {"not": 2 - ranks[0], "and": min(ranks), "or": max(ranks)}[word]
    return (False, None, True)[rank]


def is_broken(schema, store, table, row, rule):
    if rule[0] == "check":
        return plain_holds(table, rule[1], row) is False
    if rule[0] == "unlike":
        worths = worths_in(table, row, rule[1])
        others = [other for home, other in every_row(schema, store)
                  if home[0] == table[0] and plain_key(home, other) != plain_key(table, row)]
        return None not in worths and any([worths_in(table, other, rule[1]) == worths for other in others])
    if None in worths_in(table, row, rule[1]):
        return False
    return not any([refers_by(table, row, rule, aim, aimed) for aim, aimed in every_row(schema, store)])


def plain_breaks(schema, store):
    found = [(table[0], number, plain_key(table, row)) for table, row in every_row(schema, store)
             for number, rule in enumerate(table[3]) if is_broken(schema, store, table, row, rule)]
    return tuple(sorted(found))


def refers_into(table, row, way, rows):
    """The rules of this way by which row refers to one of these rows, each a pair of its table and itself."""
    return [rule for rule in table[3] if rule[0] == "refers" and rule[3] == way
            and any([refers_by(table, row, rule, aim, aimed) for aim, aimed in rows])]


def plain_gone(schema, store, name, key):
    """All pairs of a table and a row that go."""
    gone = [(table, row) for table, row in every_row(schema, store)
            if table[0] == name and plain_key(table, row) == key]
    grown = True
    while grown:
        more = [pair for pair in every_row(schema, store)
                if pair not in gone and refers_into(pair[0], pair[1], "along", gone)]
        gone = gone + more
        grown = bool(more)
    return gone


def plain_going(schema, store, name, key):
    """The pair that going tells, or the name of its refusal."""
    gone = plain_gone(schema, store, name, key)
    if not gone:
        return "NoRow"
    left = [pair for pair in every_row(schema, store) if pair not in gone]
    if any([refers_into(table, row, "stop", gone) for table, row in left]):
        return "Held"
    gaps = [(table, row) for table, row in left if refers_into(table, row, "gap", gone)]
    return tuple([tuple(sorted([(table[0], plain_key(table, row)) for table, row in part])) for part in (gone, gaps)])


def plain_row_with(table, row, pairs):
    return tuple([dict(pairs).get(column[0], worth) for column, worth in zip(table[1], row)])


def rows_behind(schema, store, deed):
    """All pairs of a table and a row behind the deed, not yet held against the rules; or the name of a refusal."""
    rows = every_row(schema, store)
    home = [table for table in schema if table[0] == deed[1]][0]
    key = plain_key(home, deed[2]) if deed[0] == "add" else deed[2]
    there = [pair for pair in rows if pair[0] == home and plain_key(home, pair[1]) == key]
    if deed[0] == "add":
        return "Twice" if there else rows + [(home, deed[2])]
    if deed[0] == "set":
        behind = [(table, plain_row_with(table, row, deed[3]) if (table, row) in there else row)
                  for table, row in rows]
        return behind if there else "NoRow"
    told = plain_going(schema, store, deed[1], key)
    if isinstance(told, str):
        return told
    gone = plain_gone(schema, store, deed[1], key)
    left = [pair for pair in rows if pair not in gone]
    return [(table, plain_row_with(table, row, [(name, None) for rule in refers_into(table, row, "gap", gone)
                                                for name in rule[1]])) for table, row in left]


def plain_done(schema, store, deed):
    """The store that done tells, or the name of its refusal."""
    rows = rows_behind(schema, store, deed)
    if isinstance(rows, str):
        return rows
    behind = tuple([tuple(sorted([row for home, row in rows if home == table],
                                 key=lambda row: plain_key(table, row))) for table in schema])
    rules = {table[0]: table[3] for table in schema}
    broken = [rules[name][number] for name, number, key in plain_breaks(schema, behind)]
    for word, refusal in (("unlike", "Twice"), ("check", "BadCheck"), ("refers", "NoRef")):
        if [rule for rule in broken if rule[0] == word and rule[-1] != "late"]:
            return refusal
    return behind


def plain_replayed(schema, store, deeds):
    """The store behind these deeds, marks among them left out, or the name of the first refusal."""
    now = store
    for deed in deeds:
        if deed[0] != "mark" and not isinstance(now, str):
            now = plain_done(schema, now, deed)
    return now


def plain_deal(schema, store, deeds):
    """The store that deal tells, or a pair of the name of its refusal and its place.

    A return strikes out all behind its mark, and what is left is done once more from the start.
    """
    left = ()
    for at, step in enumerate(deeds):
        if step[0] == "back":
            places = [place for place, other in enumerate(left) if other == ("mark", step[1])]
            if not places:
                return ("NoMark", at)
            left = left[:places[-1] + 1]
        else:
            left = left + (step,)
        told = plain_replayed(schema, store, left)
        if isinstance(told, str):
            return (told, at)
    behind = plain_replayed(schema, store, left)
    return ("NoRef", len(deeds)) if plain_breaks(schema, behind) else behind


def plain_sum(text):
    """Horner's way once more, but as one long sum."""
    whole = sum([ord(sign) * 31 ** (len(text) - 1 - place) for place, sign in enumerate(text)])
    return ("0000" + str(whole % 9973))[-4:]


def plain_part(*lines):
    """The text of these rows with its end behind it."""
    text = "".join([line + "\n" for line in lines])
    return text + "end " + plain_sum(text) + "\n"


def worth_pattern(column, gaps):
    kinds = {"whole": "0|-?[1-9][0-9]{0,2}", "text": "'[a-z0-9]{0,6}"}
    return " (?:" + kinds[column[1]] + (r"|\?" if gaps and column[2] else "") + ")"


def key_pattern(home):
    columns = [column for name in home[2] for column in home[1] if column[0] == name]
    return "".join([worth_pattern(column, False) for column in columns])


def plain_worth(word):
    if word == "?":
        return None
    return word[1:] if word[0] == "'" else int(word)


def plain_deed(schema, line):
    """The deed, mark or return of which this row is the writing, or None."""
    words = line.split(" ")
    if re.fullmatch("(?:mark|back) [a-z]{1,6}", line):
        return tuple(words)
    for home in schema:
        start = " " + home[0]
        free = [" " + column[0] + worth_pattern(column, True) for column in home[1] if column[0] not in home[2]]
        if re.fullmatch("add" + start + "".join([worth_pattern(column, True) for column in home[1]]), line):
            return ("add", home[0], tuple([plain_worth(word) for word in words[2:]]))
        if re.fullmatch("drop" + start + key_pattern(home), line):
            return ("drop", home[0], tuple([plain_worth(word) for word in words[2:]]))
        if free and re.fullmatch("set" + start + key_pattern(home) + " :(?:" + "|".join(free) + "){1,3}", line):
            colon = 2 + len(home[2])
            names = words[colon + 1::2]
            pairs = [(name, plain_worth(word)) for name, word in zip(names, words[colon + 2::2])]
            if len(set(names)) == len(names):
                return ("set", home[0], tuple([plain_worth(word) for word in words[2:colon]]), tuple(pairs))
    return None


def plain_base_row(schema, deeds, deed):
    """Whether this deed can stand behind these in a base."""
    if deed is None or deed[0] != "add":
        return False
    places = [(number, plain_key(home, each[2])) for each in deeds[-1:] + [deed]
              for number, home in enumerate(schema) if home[0] == each[1]]
    return len(places) == 1 or places[0] < places[1]


def plain_store_behind(schema, store, part, deeds):
    """The store behind this base or deal, or None if its end can not stand."""
    if part == "deal":
        told = plain_deal(schema, store, deeds)
        return None if isinstance(told[0], str) else told
    base = tuple([tuple([deed[2] for deed in deeds if deed[1] == home[0]]) for home in schema])
    return None if plain_breaks(schema, base) else base


def plain_back(schema, text):
    """The pair that back_from tells, or the number of the first row that can not stand."""
    store, whole, seen, part, ahead, deeds = tuple([() for home in schema]), 0, 0, None, "", []
    for at, line in enumerate(re.findall("([^\n]*)\n", text)):
        seen += len(line) + 1
        if part is None:
            if line != "deal" and (line, at) != ("base", 0):
                return at
            part, ahead, deeds = line, line + "\n", []
        elif line == "end " + plain_sum(ahead):
            behind = plain_store_behind(schema, store, part, deeds)
            if behind is None:
                return at
            store, whole, part = behind, seen, None
        else:
            deed = plain_deed(schema, line)
            if deed is None or part == "base" and not plain_base_row(schema, deeds, deed):
                return at
            ahead, deeds = ahead + line + "\n", deeds + [deed]
    return (store, whole)
