"""A second reading of the document about claims and certificates, which counts out all shapes that fit."""

import functools
import itertools

from raggedtotals.cubes import Cube
from raggedtotals.errors import InvalidText, TooMany
from raggedtotals.schemas import Schema
from raggedtotals.shapes import Shape
from raggedtotals.texts import read_condition
from tests import model, sights, spots
from tests.stock import Stock, is_integer


def is_row(value, *kinds):
    """Whether a value is a tuple of these kinds."""
    return type(value) is tuple and len(value) == len(kinds) and all(
        type(item) is kind for item, kind in zip(value, kinds))


@functools.lru_cache(maxsize=None)
def read_schema(text):
    """The schema with this text; None if there is none."""
    try:
        return Schema.read(text)
    except (InvalidText, TooMany):
        return None


@functools.lru_cache(maxsize=None)
def fitting(text):
    """All plain shapes that fit the schema with this text, by their texts, with the texts of their other parts.

    Each with a sign: whether it keeps the rules of its own level.
    """
    schema, found = read_schema(text), {}
    marks = {row[0]: row[1:] for row in schema.marks}
    for level in schema.levels:
        rules = [condition for place, condition in schema.rules if place == level]
        for plain in model.plain_shapes(level, schema.links, marks):
            parts = [model.text_of_plain(model.part_of(plain, other))
                     for other in model.above(plain[1], level) if other != level]
            keeps = all(condition(model.shape_of(plain)) for condition in rules)
            found[model.text_of_plain(plain)] = (plain, parts, keeps)
    return found


@functools.lru_cache(maxsize=None)
def complete(text, listed):
    """Whether a tuple of strings is a complete list for the schema with this text."""
    known, given = fitting(text), set(listed)
    if len(given) < len(listed) or not given <= set(known):
        return False
    return not any(keeps and name not in given and given.issuperset(parts)
                   for name, (_, parts, keeps) in known.items())


def is_complete(text, value):
    """Whether any value is a complete list for the schema with this text."""
    return type(value) is tuple and all(type(item) is str for item in value) and complete(text, value)


def cube_of(value):
    """The cube of a tuple of texts of schemas; None if it is none."""
    if type(value) is not tuple or not 1 <= len(value) <= 3 or not all(type(text) is str for text in value):
        return None
    schemas = [read_schema(text) for text in value]
    return None if None in schemas else Cube(*schemas)


def is_view(cube, value):
    return type(value) is tuple and len(value) == len(cube) and all(
        type(level) is str and (level == "*" or level in schema.levels) for level, schema in zip(value, cube.schemas))


def are_views(cube, value, least, most):
    return type(value) is tuple and least <= len(value) <= most and all(is_view(cube, view) for view in value)


def values(members, facts, view, measure):
    """For all cells of a view their totals or greatest, for entries of each dimension."""
    tables = [spots.ancestors_of(entries) for entries in members]
    names = [["*"] if level == "*" else sorted(entry[0] for entry in entries if entry[1] == level)
             for entries, level in zip(members, view)]
    found = {cell: [] for cell in itertools.product(*names)}
    for place, amount in facts:
        cell = tuple("*" if level == "*" else table[name].get(level)
                     for table, name, level in zip(tables, place, view))
        if None not in cell:
            found[cell].append(amount)
    return {cell: spots.MEASURES[measure](amounts) for cell, amounts in found.items()}


def are_facts(stock, value):
    """Whether any value is a tuple of facts with different cells."""
    if type(value) is not tuple or not all(is_row(fact, tuple, int) and stock.is_cell(fact[0]) for fact in value):
        return False
    return len({fact[0] for fact in value}) == len(value)


def unseen(cube, wanted, stored, data, measure="total"):
    """The indexes of the stored views in which a DATA looks alike; None if it is not one, or alike in its cell."""
    if not is_row(data, tuple, tuple, tuple, tuple) or len(data[0]) != len(cube):
        return None
    members, cell, first, second = data
    stock = Stock(cube.schemas)
    for place, entries in enumerate(members):
        if type(entries) is not tuple or stock.wrong(("put", place, *entries)) is not None:
            return None
        stock = stock.after(("put", place, *entries))
    if not are_facts(stock, first) or not are_facts(stock, second):
        return None
    if len(cell) != len(cube) or not all(type(name) is str for name in cell):
        return None
    tables = [values(members, facts, wanted, measure) for facts in (first, second)]
    if cell not in tables[0] or tables[0][cell] == tables[1][cell]:
        return None
    return {index for index, view in enumerate(stored)
            if values(members, first, view, measure) == values(members, second, view, measure)}


def plain_named(view, value):
    """The plain cell shape with these texts of the levels of a view; None if there is none."""
    if type(value) is not tuple or len(value) != len(view) or not all(type(text) is str for text in value):
        return None
    found = []
    for level, text in zip(view, value):
        if "*" in (level, text):
            if level != text:
                return None
            found.append("*")
            continue
        try:
            shape = Shape.read(text)
        except InvalidText:
            return None
        if shape.level != level:
            return None
        found.append(sights.plain_of(shape))
    return tuple(found)


def row_of(wanted, stored, value):
    """The pair (texts, weights) of a row; None if a value is none."""
    if not is_row(value, tuple, tuple):
        return None
    upper, weights = plain_named(wanted, value[0]), {}
    if upper is None:
        return None
    for term in value[1]:
        if not is_row(term, int, tuple, int, int) or not 0 <= term[0] < len(stored) or term[3] < 1:
            return None
        lower = plain_named(stored[term[0]], term[1])
        if lower is None or not sights.below(lower, upper):
            return None
        weights[term[:2]] = weights.get(term[:2], 0) + sights.Fraction(*term[2:])
    return value[0], weights


def listed_cells(cube, lists):
    """The listed plain base cell shapes; None if a value is no tuple of complete lists."""
    if type(lists) is not tuple or len(lists) != len(cube):
        return None
    rows = []
    for schema, value in zip(cube.schemas, lists):
        if not is_complete(str(schema), value):
            return None
        plains = [fitting(str(schema))[text][0] for text in value]
        rows.append([plain for plain in plains if plain[0] == schema.base])
    return list(itertools.product(*rows))


def accepts_determined(cube, wanted, stored, certificate):
    if not is_row(certificate, tuple, tuple):
        return False
    cells = listed_cells(cube, certificate[0])
    rows = [row_of(wanted, stored, value) for value in certificate[1]]
    if cells is None or None in rows or len(dict(rows)) < len(rows):
        return False
    weights = dict(rows)
    for plains in cells:
        if sights.passes(plains, wanted):
            upper = sights.texts(sights.part(plains, wanted))
            seen = [(index, sights.texts(sights.part(plains, view))) for index, view in enumerate(stored)
                    if sights.passes(plains, view)]
            if upper not in weights or sum(weights[upper].get(key, 0) for key in seen) != 1:
                return False
    return True


def accepts_greatest(cube, wanted, stored, certificate):
    cells = listed_cells(cube, certificate)
    return cells is not None and all(
        sights.seen_by(plains, wanted, stored) for plains in cells if sights.passes(plains, wanted))


def accepts_price(pieces, certificate):
    if len(pieces) != 5 or type(certificate) is not tuple or not is_integer(pieces[4]):
        return False
    cube, (_, wanteds, stored, prices, price) = cube_of(pieces[0]), pieces
    if cube is None or not are_views(cube, wanteds, 1, 4) or not are_views(cube, stored, 0, 10):
        return False
    if type(prices) is not tuple or len(prices) != len(stored) or not all(is_integer(one) and one > 0 for one in prices):
        return False
    found = []
    for pair in certificate:
        if not is_row(pair, int, tuple) or not 0 <= pair[0] < len(wanteds):
            return False
        found.append(unseen(cube, wanteds[pair[0]], stored, pair[1]))
    if None in found:
        return False
    return all(any(set(chosen) <= alike for alike in found) for chosen in spots.subsets(len(stored))
               if sum(prices[index] for index in chosen) < price)


def accepts_rule(word, pieces, certificate):
    if not is_row(pieces, str, str, str):
        return False
    schema = read_schema(pieces[0])
    try:
        condition = read_condition(pieces[2])
    except InvalidText:
        return False
    if schema is None or pieces[1] not in schema.levels or not set(condition.levels) <= set(schema.levels):
        return False
    known = fitting(pieces[0])
    if word == "follows":
        return is_complete(pieces[0], certificate) and all(
            condition(model.shape_of(known[text][0])) for text in certificate if known[text][0][0] == pieces[1])
    if type(certificate) is not str or certificate not in known:
        return False
    plain, parts, keeps = known[certificate]
    allowed = keeps and all(known[part][2] for part in parts)
    return plain[0] == pieces[1] and allowed and not condition(model.shape_of(plain))


def accepts(claim, certificate):
    """Whether the certificate has the form and meets the conditions for the claim."""
    if type(claim) is not tuple or not claim or type(claim[0]) is not str:
        return False
    word, *pieces = claim
    if word in ("follows", "does not follow"):
        return accepts_rule(word, tuple(pieces), certificate)
    if word == "price":
        return accepts_price(pieces, certificate)
    if len(pieces) != 3:
        return False
    cube, (_, wanted, stored) = cube_of(pieces[0]), pieces
    if cube is None or not is_view(cube, wanted) or not are_views(cube, stored, 0, 10):
        return False
    if word == "determined":
        return accepts_determined(cube, wanted, stored, certificate)
    if word == "greatest determined":
        return accepts_greatest(cube, wanted, stored, certificate)
    if word in ("not determined", "greatest not determined"):
        found = unseen(cube, wanted, stored, certificate, "total" if word == "not determined" else "greatest")
        return found == set(range(len(stored)))
    return False


def near_values(value, others):
    """Values that differ from a plain one at one place: changed, put in, left out, twice, exchanged."""
    if type(value) is tuple:
        for at, item in enumerate(value):
            for near in near_values(item, others):
                yield (*value[:at], near, *value[at + 1:])
            yield (*value[:at], *value[at + 1:])
            yield (*value[:at], item, item, *value[at + 1:])
            for place in range(at):
                changed = list(value)
                changed[at], changed[place] = changed[place], changed[at]
                yield tuple(changed)
        yield list(value)
        yield ()
        yield (*value, value)
        yield (value,)
        for other in others[:3]:
            yield (*value, other)
            yield (other, *value)
    elif type(value) is int:
        yield from (value + 1, value - 1, -value, str(value), bool(value), None, 2 * value, (value,))
    elif type(value) is str:
        yield from (value + " ", " " + value, value[:-1], value[1:], value + value, value.upper(), value + "\n", "*",
                    "", None, 0, (value,), [value], value.encode())
    yield from others
