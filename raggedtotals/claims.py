"""Reading the pieces of claims and certificates, which may be any plain values: what has a wrong form gives None."""

from raggedtotals.cubes import Cube, check_stored, check_view
from raggedtotals.datasets import Dataset
from raggedtotals.errors import (
    BrokenRule, InvalidFacts, InvalidMembers, InvalidParents, InvalidPrices, InvalidStored, InvalidText, InvalidView,
    InvalidWanted, TooMany, TwoAncestors,
)
from raggedtotals.hierarchies import Hierarchy
from raggedtotals.integers import is_integer
from raggedtotals.limits import MAX_DIMENSIONS
from raggedtotals.schemas import Schema, is_level, names_only
from raggedtotals.stores import check_prices, check_wanteds
from raggedtotals.texts import read_condition


def schema_of(text):
    """The schema with this text."""
    try:
        return Schema.read(text)
    except (InvalidText, TooMany):
        return None


def cube_of(texts):
    """The cube of the schemas with these texts."""
    if not isinstance(texts, tuple) or len(texts) < 1 or len(texts) > MAX_DIMENSIONS:
        return None
    schemas = [schema_of(text) for text in texts]
    if None in schemas:
        return None
    return Cube(*schemas)


def rule_of(schema, level, text):
    """The condition with this text, if this is a level of the schema and the condition names its levels alone."""
    try:
        condition = read_condition(text)
    except InvalidText:
        return None
    if not is_level(schema, level) or not names_only(condition, schema.levels):
        return None
    return condition


def rule_claim(pieces):
    """The schema, level and condition of a claim about one."""
    if len(pieces) != 3:
        return None
    text, level, words = pieces
    schema = schema_of(text)
    if schema is None:
        return None
    condition = rule_of(schema, level, words)
    if condition is None:
        return None
    return schema, level, condition


def view_claim(pieces):
    """The cube, wanted view and stored views of a claim about a view."""
    if len(pieces) != 3:
        return None
    texts, wanted, stored = pieces
    cube = cube_of(texts)
    if cube is None:
        return None
    try:
        check_view(cube, wanted)
        check_stored(cube, stored)
    except (InvalidView, InvalidStored):
        return None
    return cube, wanted, stored


def price_claim(pieces):
    """The cube, wanted views, stored views, prices and price of a claim about a price."""
    if len(pieces) != 5:
        return None
    texts, wanteds, stored, prices, price = pieces
    cube = cube_of(texts)
    if cube is None or not is_integer(price):
        return None
    try:
        check_wanteds(cube, wanteds)
        check_stored(cube, stored)
        check_prices(prices, len(stored))
    except (InvalidWanted, InvalidStored, InvalidPrices):
        return None
    return cube, wanteds, stored, prices, price


def data_of(cube, wanted, data):
    """The two datasets and the cell of the wanted view of a DATA."""
    if not isinstance(data, tuple) or len(data) != 4:
        return None
    members, cell, facts, others = data
    if not isinstance(members, tuple) or len(members) != len(cube):
        return None
    try:
        hierarchies = [Hierarchy.of(schema, entries) for schema, entries in zip(cube.schemas, members)]
        first = Dataset(*hierarchies, facts=facts)
        second = Dataset(*hierarchies, facts=others)
    except (InvalidMembers, InvalidParents, TwoAncestors, BrokenRule, InvalidFacts):
        return None
    if not first.is_cell(wanted, cell):
        return None
    return first, second, cell
