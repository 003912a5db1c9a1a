"""What the rules of a schema reach, and schemas with a rule more or one less."""

from dealtables.breaking import keys_that_break
from dealtables.doing import along_with
from dealtables.schemas import table_of


def may_go(schema, name):
    return tuple(sorted(along_with(references_between(schema), name)))


def may_gap(schema, name):
    return names_that_refer(schema, name, "gap")


def may_hold(schema, name):
    return names_that_refer(schema, name, "stop")


def names_that_refer(schema, name, way):
    references = references_between(schema)
    gone = along_with(references, name)
    return tuple(sorted(set([source for source, rule, aim in references if rule[3] == way and aim in gone])))


# Triples as between rows, with the names of tables in the place of rows, so that both are walked alike.
def references_between(schema):
    found = []
    for table in schema:
        found.extend([(table[0], rule, rule[2]) for rule in table[3] if rule[0] == "refers"])
    return found


def with_rule(schema, name, rule):
    return with_rules(schema, name, table_of(schema, name)[3] + (rule,))


def without_rule(schema, name, number):
    rules = table_of(schema, name)[3]
    return with_rules(schema, name, rules[:number] + rules[number + 1:])


def with_rules(schema, name, rules):
    return tuple([table[:3] + (rules,) if table[0] == name else table for table in schema])


def finds(schema, store, name, rule):
    return tuple(sorted(keys_that_break(schema, store, table_of(schema, name), rule)))
