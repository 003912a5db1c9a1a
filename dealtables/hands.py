"""Deals of two hands: joined where they do not clash, and the rows that they touch."""

from dealtables.breaking import key_of
from dealtables.dealing import deal
from dealtables.errors import Clash, DealError


def both(schema, store, one, other):
    other_last = done_behind(schema, deal(schema, store, one), other, "one")
    one_last = done_behind(schema, deal(schema, store, other), one, "other")
    if other_last != one_last:
        raise Clash("the two orders come to two stores", 0, "both")
    return other_last


def done_behind(schema, store, deeds, how):
    try:
        return deal(schema, store, deeds)
    except DealError as error:
        raise Clash("one deal can not be done behind the other", 0, how) from error


def touched(schema, store, deeds):
    ahead = rows_by_place(schema, store)
    behind = rows_by_place(schema, deal(schema, store, deeds))
    places = sorted(set(ahead) | set(behind))
    return tuple([place for place in places if ahead.get(place) != behind.get(place)])


def rows_by_place(schema, store):
    rows = {}
    for table, each in zip(schema, store):
        for row in each:
            rows[(table[0], key_of(table, row))] = row
    return rows


def apart(schema, store, one, other):
    return len(set(touched(schema, store, one)) & set(touched(schema, store, other))) == 0
