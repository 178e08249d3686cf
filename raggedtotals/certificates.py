"""Certificates of what this program decides, in the form that the checker reads."""

from raggedtotals.blindspots import find_blind_spot
from raggedtotals.cellshapes import texts_within
from raggedtotals.conditions import check_condition
from raggedtotals.consequences import breaking
from raggedtotals.errors import InvalidRules
from raggedtotals.schemas import check_level, check_schema, names_only
from raggedtotals.stores import cheapest
from raggedtotals.sums import find_formula


def list_of(schema):
    """The complete list of the texts of all allowed shapes."""
    return tuple([str(shape) for level in schema.levels for shape in schema.shapes(level)])


def lists_of(cube):
    """For each dimension the complete list."""
    return tuple([list_of(schema) for schema in cube.schemas])


def texts_of_schemas(cube):
    """The texts of the schemas of a cube."""
    return tuple([str(schema) for schema in cube.schemas])


def row_of(part, terms):
    """A row of a formula with texts in the place of shapes."""
    told = [(index, texts_within(shapes), numerator, denominator) for index, shapes, numerator, denominator in terms]
    return texts_within(part), tuple(told)


def data_from(spot):
    """The DATA of a blind spot."""
    entries = tuple([hierarchy.entries for hierarchy in spot.first.hierarchies])
    return entries, spot.cell, spot.first.facts, spot.second.facts


def certify_follows(schema, level, condition):
    """The claim that the condition follows for the level, or does not, and its certificate."""
    check_schema(schema)
    check_level(schema, level)
    check_condition(condition)
    if not names_only(condition, schema.levels):
        raise InvalidRules(None)
    pieces = (str(schema), level, str(condition))
    shape = breaking(schema, level, condition)
    if shape is None:
        return ("follows", *pieces), list_of(schema)
    return ("does not follow", *pieces), str(shape)


def certify_totals(cube, wanted, stored):
    """The claim that the totals of the wanted view are determined, or are not, and its certificate."""
    formula = find_formula(cube, wanted, stored)
    pieces = (texts_of_schemas(cube), wanted, stored)
    if formula is None:
        return ("not determined", *pieces), data_from(find_blind_spot(cube, wanted, stored))
    rows = tuple([row_of(part, terms) for part, terms in formula.rows])
    return ("determined", *pieces), (lists_of(cube), rows)


def certify_greatest(cube, wanted, stored):
    """The claim that the greatest of the wanted view are determined, or are not, and its certificate."""
    spot = find_blind_spot(cube, wanted, stored, measure="greatest")
    pieces = (texts_of_schemas(cube), wanted, stored)
    if spot is None:
        return ("greatest determined", *pieces), lists_of(cube)
    return ("greatest not determined", *pieces), data_from(spot)


def certify_price(cube, wanteds, candidates, prices):
    """The claim that nothing cheaper than a plan determines the wanted views, and its certificate; None without one."""
    plan = cheapest(cube, wanteds, candidates, prices)
    if plan is None:
        return None
    claim = ("price", texts_of_schemas(cube), wanteds, candidates, prices, plan.price)
    return claim, tuple([(index, data_from(spot)) for index, spot in plan.evidence])
