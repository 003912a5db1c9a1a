"""Schemas out of their texts."""

from dealtables.errors import NoText
from dealtables.schemas import DEEPEST_TEST, FIGURES, is_schema, is_text_of
from dealtables.writing import written


# The parts below only find the one schema that the text could be of; whether it is of it, its own writing tells.
def read(text):
    schema = tuple([table_from(lines) for lines in lines_of_tables(text)])
    if not is_schema(schema) or written(schema) != text:
        raise NoText("this text is no schema's writing")
    return schema


def lines_of_tables(text):
    tables = []
    for line in text.split("\n")[:-1]:
        words = line.split(" ")
        if words[0] == "table":
            tables.append([words])
        elif tables:
            tables[-1].append(words)
        else:
            raise NoText("there is no table ahead of the first row")
    return tables


def table_from(lines):
    head = lines[0]
    ask_for_words(head, 4)
    columns = [column_from(words) for words in lines[1:] if words[1:2] == ["column"]]
    rules = [rule_from(words) for words in lines[1:] if words[1:2] != ["column"]]
    return (head[1], tuple(columns), tuple(head[3:]), tuple(rules))


def ask_for_words(words, fewest):
    if len(words) < fewest:
        raise NoText("a row has too few words")


def column_from(words):
    ask_for_words(words, 4)
    return (words[2], words[3], len(words) > 4)


def rule_from(words):
    ask_for_words(words, 3)
    if words[1] == "check":
        return ("check", test_from(words[2:], DEEPEST_TEST))
    if words[1] == "unlike":
        return ("unlike", tuple(words[2:]))
    if words[1] == "refers":
        # A column may be called "to", so the end of the row tells where its columns stop.
        return ("refers", tuple(words[2:-3]), words[-2], words[-1])
    raise NoText("a row is neither a column nor a rule")


# A text may have any number of "not"s; bounded here, no text brings the recursion to its end.
def test_from(words, deepest):
    if deepest == 0:
        raise NoText("tests are too many within one another")
    word = next_word(words)
    if word == "not":
        return ("not", test_from(words, deepest - 1))
    if word == "and" or word == "or":
        one = test_from(words, deepest - 1)
        return (word, one, test_from(words, deepest - 1))
    column = next_word(words)
    if word == "empty":
        return ("empty", column)
    if word == "is":
        return ("is", column, worth_from(next_word(words)))
    return (word, column, next_word(words))


def next_word(words):
    if len(words) == 0:
        raise NoText("a test stops short")
    return words.pop(0)


def worth_from(word):
    if word == "?":
        return None
    if word.startswith("'"):
        return word[1:]
    return number_from(word)


# Python takes more for a number than figures, and not any number of figures.
def number_from(word):
    figures = word[1:] if word.startswith("-") else word
    if not is_text_of(figures, 1, 3, FIGURES):
        raise NoText("a worth is neither a number, nor a text, nor a gap")
    return int(word)
