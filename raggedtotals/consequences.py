"""What follows from the rules of a schema."""

from raggedtotals.candidates import candidates
from raggedtotals.conditions import check_condition
from raggedtotals.errors import NotComparable
from raggedtotals.schemas import check_level, check_schema


def is_possible(schema, level):
    """Whether a hierarchy of the schema with a member of this level exists."""
    check_schema(schema)
    check_level(schema, level)
    return len(list(schema.shapes(level))) > 0


def breaking(schema, level, condition):
    """An allowed shape of the level that makes the condition false; None if there is none."""
    check_schema(schema)
    check_level(schema, level)
    check_condition(condition)
    for shape in schema.shapes(level):
        if not condition(shape):
            return shape
    return None


def follows(schema, level, condition):
    """Whether every member of this level in every hierarchy of the schema makes the condition true."""
    return breaking(schema, level, condition) is None


def rules_difference(schema, other):
    """A shape that is allowed in exactly one of the schemas; None if there is none."""
    check_schema(schema)
    check_schema(other)
    if (schema.base, schema.links, schema.marks) != (other.base, other.links, other.marks):
        raise NotComparable()
    for level in schema.levels:
        for shape in schema.shapes(level):
            if not other.allows(shape):
                return shape
        for shape in other.shapes(level):
            if not schema.allows(shape):
                return shape
    return None


def same_rules(schema, other):
    """Whether every hierarchy of one schema is also one of the other."""
    return rules_difference(schema, other) is None


def candidates_of(schema, level):
    """The candidates of a level of the schema."""
    uppers = schema.above(level)
    allowed = {upper: list(schema.shapes(upper)) for upper in uppers}
    return candidates(level, uppers, schema.marks_of(level), allowed)


def idle_at(schema, level):
    """The indexes of the rules of this level each of which follows from the other ones."""
    indexes = [index for index, rule in enumerate(schema.rules) if rule[0] == level]
    broken = {}
    for shape in candidates_of(schema, level):
        wrong = [index for index in indexes if not schema.rules[index][1](shape)]
        # A candidate tells of a rule if it keeps all the other ones.
        if len(wrong) == 1:
            broken[wrong[0]] = True
    return [index for index in indexes if index not in broken]


def idle_rules(schema):
    """The ascending tuple of the indexes of all rules each of which follows from the other ones."""
    check_schema(schema)
    return tuple(sorted([index for level in schema.levels for index in idle_at(schema, level)]))
