"""Things that several test files need: sound examples, and ways to spoil them."""

PLACES = (
    "place",
    (("id", "whole", False), ("name", "text", False), ("boss", "whole", True), ("size", "whole", True)),
    ("id",),
    (
        ("check", ("or", ("empty", "boss"), ("not", ("is", "size", -7)))),
        ("unlike", ("name", "size")),
        ("refers", ("boss",), "place", "gap"),
    ),
)
GOODS = (
    "good",
    (("sort", "text", False), ("place", "whole", False), ("spare", "text", True)),
    ("sort", "place"),
    (
        ("refers", ("place",), "place", "along"),
        ("refers", ("sort", "place"), "offer", "late"),
        ("check", ("and", ("below", "sort", "spare"), ("is", "spare", ""))),
    ),
)
OFFERS = (
    "offer",
    (("what", "text", False), ("where", "whole", False)),
    ("what", "where"),
    (("refers", ("what", "where"), "good", "stop"),),
)
SCHEMA = (PLACES, GOODS, OFFERS)
STORE = (
    ((-999, "", None, None), (0, "north", -999, 999), (3, "abc123", 77, None)),
    (("", 3, None), ("a", -5, "z9"), ("a", 0, "")),
    (),
)

WHOLES = ("table", (("a", "whole", False), ("b", "whole", True)), ("a",), ())

DEEP = 30


def nested(kind, inner):
    """DEEP tuples or lists within one another around inner."""
    thing = inner
    for k in range(DEEP):
        thing = kind([thing])
    return thing


def deep_test(inner, how_deep):
    """inner within so many nots."""
    test = inner
    for k in range(how_deep):
        test = ("not", test)
    return test


# None of these is a test, a schema, a row of two columns or more, or a store of two tables or more.
ODD_THINGS = (
    0, 1, -1, 10 ** 40, True, False, None, "", "a", "is", "table", "(1,)",
    (), [], [[]], [()], ([],), (None, True, False), (((),),), ((((), ()), ()), ()),
    ("not",), ("and",), ("is",), ("table",), ["is", "a", 1],
    nested(tuple, ()), nested(tuple, 5), nested(tuple, "a"), nested(tuple, None), nested(tuple, True),
    nested(list, []), nested(list, "a"), nested(tuple, []), nested(list, ()),
    ("not", nested(tuple, 1)), ("and", nested(list, 1), nested(tuple, 1)), ("is", nested(list, "a"), 1),
    deep_test(("empty", "a"), DEEP), deep_test(7, DEEP), (nested(tuple, 1), nested(tuple, 1)),
)


def with_one_listed(thing):
    """All that thing becomes when one tuple of it, at any depth, is made a list."""
    if not isinstance(thing, tuple):
        return []
    found = [list(thing)]
    for k, part in enumerate(thing):
        for spoilt in with_one_listed(part):
            found.append(thing[:k] + (spoilt,) + thing[k + 1:])
    return found


def with_one_leaf(thing, turn):
    """All that thing becomes when turn is done to one part that is no tuple; where turn gives none, none."""
    if not isinstance(thing, tuple):
        return turn(thing)
    found = []
    for k, part in enumerate(thing):
        for other in with_one_leaf(part, turn):
            found.append(thing[:k] + (other,) + thing[k + 1:])
    return found


def other_kinds(leaf):
    """For a leaf: things of other kinds than the leaf, but no gap for a worth."""
    if isinstance(leaf, bool):
        return [int(leaf), None, str(leaf), (leaf,), [leaf]]
    if isinstance(leaf, int):
        return [True, False, str(leaf), (leaf,), [leaf]]
    if leaf is None:
        return [True, False, (), [], (None,), [None]]
    return [True, False, 0, 1, (leaf,), [leaf], list(leaf), tuple(leaf)]
