"""Small tables, rules and rows for examples: a key k, two whole numbers x and y, and a text s."""

COLUMNS = (("k", "whole", False), ("x", "whole", True), ("y", "whole", True), ("s", "text", True))
# A key of two columns that stands in another turn than they do.
PAIRS = ("p", (("m", "whole", False), ("v", "whole", True), ("n", "text", False)), ("n", "m"), ())


def table(name, *rules):
    return (name, COLUMNS, ("k",), rules)


def refers(column, name, way):
    return ("refers", (column,), name, way)


def row(k, x=None, y=None, s=None):
    return (k, x, y, s)
