"""The checker: whether a certificate proves a claim, whoever wrote it."""

from raggedtotals.cellshapes import lies_below
from raggedtotals.choices import sets_by_price
from raggedtotals.claims import data_of, price_claim, rule_claim, view_claim
from raggedtotals.datasets import greatest_differ, totals_differ
from raggedtotals.integers import is_integer
from raggedtotals.limits import EVERYTHING
from raggedtotals.linear import lowest_terms
from raggedtotals.listings import complete_shapes, shape_of
from raggedtotals.plain import is_plain
from raggedtotals.products import tuple_by_tuple


def holds_follows(claim, certificate):
    """Whether the certificate is a complete list in which all shapes of the level make the condition true."""
    schema, level, condition = claim
    shapes = complete_shapes(schema, certificate)
    return shapes is not None and all([condition(shape) for shape in shapes if shape.level == level])


def holds_broken(claim, certificate):
    """Whether the certificate is the text of an allowed shape of the level that makes the condition false."""
    schema, level, condition = claim
    shape = shape_of(certificate)
    return shape is not None and shape.level == level and schema.allows(shape) and not condition(shape)


def base_parts(cube, lists):
    """For each dimension the parts, by their levels, of all listed shapes of the base; None if a list is wrong."""
    if not isinstance(lists, tuple) or len(lists) != len(cube):
        return None
    rows = []
    for schema, texts in zip(cube.schemas, lists):
        shapes = complete_shapes(schema, texts)
        if shapes is None:
            return None
        base = [shape for shape in shapes if shape.level == schema.base]
        rows.append([{level: shape.part(level) for level in shape.levels} for shape in base])
    return rows


def texts_at(parts, view):
    """The texts of the part at a view, for the parts of a base cell shape; None if it does not pass the view."""
    texts = []
    for row, level in zip(parts, view):
        if level != EVERYTHING and level not in row:
            return None
        texts.append(EVERYTHING if level == EVERYTHING else str(row[level]))
    return tuple(texts)


def shape_named(level, text):
    """The shape of the level with this text, or the sign for everything where a view has it; None if it is neither."""
    if level == EVERYTHING:
        return EVERYTHING if text == EVERYTHING else None
    shape = shape_of(text)
    return shape if shape is not None and shape.level == level else None


def shapes_named(view, texts):
    """The cell shape of the view with these texts, allowed or not; None if a plain value has not this form."""
    if not isinstance(texts, tuple) or len(texts) != len(view):
        return None
    shapes = tuple([shape_named(level, text) for level, text in zip(view, texts)])
    return None if None in shapes else shapes


def is_term(stored, upper, value):
    """Whether a plain value is a term for a row of this cell shape."""
    if not isinstance(value, tuple) or len(value) != 4:
        return False
    index, texts, numerator, denominator = value
    if not is_integer(index) or index not in range(len(stored)):
        return False
    if not is_integer(numerator) or not is_integer(denominator) or denominator < 1:
        return False
    shapes = shapes_named(stored[index], texts)
    return shapes is not None and lies_below(shapes, upper)


def is_row(wanted, stored, value):
    """Whether a plain value is a row of a formula."""
    if not isinstance(value, tuple) or len(value) != 2 or not isinstance(value[1], tuple):
        return False
    upper = shapes_named(wanted, value[0])
    return upper is not None and all([is_term(stored, upper, term) for term in value[1]])


def weights_by_row(wanted, stored, rows):
    """For each cell shape that has a row its terms; None if a plain value is not a tuple of different rows."""
    if not isinstance(rows, tuple) or not all([is_row(wanted, stored, row) for row in rows]):
        return None
    found = {}
    for texts, terms in rows:
        if texts in found:
            return None
        found[texts] = weights_of(terms)
    return found


def weights_of(terms):
    """The weight of each index and cell shape, added up over the terms that have them."""
    weights = {}
    for index, texts, numerator, denominator in terms:
        weights[(index, texts)] = added(weights.get((index, texts), (0, 1)), (numerator, denominator))
    return weights


def added(first, second):
    """The sum of two fractions, in lowest terms."""
    return lowest_terms(first[0] * second[1] + second[0] * first[1], first[1] * second[1])


def weight_seen(parts, stored, weights):
    """The sum of the weights that a base cell shape has in the stored views."""
    total = (0, 1)
    for index, view in enumerate(stored):
        total = added(total, weights.get((index, texts_at(parts, view)), (0, 1)))
    return total


def holds_determined(claim, certificate):
    """Whether the certificate has complete lists and rows of a formula for the listed base cell shapes."""
    cube, wanted, stored = claim
    if not isinstance(certificate, tuple) or len(certificate) != 2:
        return False
    lists, rows = certificate
    table = base_parts(cube, lists)
    weights = weights_by_row(wanted, stored, rows)
    if table is None or weights is None:
        return False
    for parts in tuple_by_tuple(table):
        upper = texts_at(parts, wanted)
        if upper is not None and (upper not in weights or weight_seen(parts, stored, weights[upper]) != (1, 1)):
            return False
    return True


def counts_below(parts, wanted, view):
    """Whether a base cell shape that passes the wanted view counts for a stored view."""
    for row, level, lower in zip(parts, wanted, view):
        if lower != EVERYTHING and lower not in row:
            return False
        # Its part at the stored view must tell the member of the wanted one.
        if level != EVERYTHING and (lower == EVERYTHING or level not in row[lower]):
            return False
    return True


def holds_greatest(claim, certificate):
    """Whether the certificate has complete lists in which each base cell shape that passes counts for some index."""
    cube, wanted, stored = claim
    table = base_parts(cube, certificate)
    if table is None:
        return False
    for parts in tuple_by_tuple(table):
        if texts_at(parts, wanted) is not None and not any([counts_below(parts, wanted, view) for view in stored]):
            return False
    return True


def value_at(dataset, view, cell, measure):
    """The total or the greatest amount of a cell."""
    return dataset.total(view, cell) if measure == "total" else dataset.greatest(view, cell)


def values_differ(first, second, view, measure):
    """Whether two datasets have different totals, or greatest amounts, in some cell of the view."""
    return totals_differ(first, second, view) if measure == "total" else greatest_differ(first, second, view)


def unseen_by(cube, wanted, stored, data, measure):
    """The indexes of the stored views in which both datasets of a DATA look alike.

    None if it is not as required, or if its cell looks alike, too.
    """
    found = data_of(cube, wanted, data)
    if found is None:
        return None
    first, second, cell = found
    if value_at(first, wanted, cell, measure) == value_at(second, wanted, cell, measure):
        return None
    return [index for index, view in enumerate(stored) if not values_differ(first, second, view, measure)]


def holds_spot(claim, certificate, measure):
    """Whether the certificate is a DATA that looks alike in all stored views, but not in its cell."""
    cube, wanted, stored = claim
    unseen = unseen_by(cube, wanted, stored, certificate, measure)
    return unseen is not None and len(unseen) == len(stored)


def unseen_by_pair(cube, wanteds, stored, pair):
    """The indexes of the stored views that do not see the DATA of a pair; None if this is not as required."""
    if not isinstance(pair, tuple) or len(pair) != 2:
        return None
    index, data = pair
    if not is_integer(index) or index not in range(len(wanteds)):
        return None
    return unseen_by(cube, wanteds[index], stored, data, "total")


def holds_price(claim, certificate):
    """Whether the certificate has a DATA for each set of stored views that would be cheaper."""
    cube, wanteds, stored, prices, price = claim
    if not isinstance(certificate, tuple):
        return False
    unseen = [unseen_by_pair(cube, wanteds, stored, pair) for pair in certificate]
    if None in unseen:
        return False
    for total, chosen in sets_by_price(prices):
        if total < price and not any([all([index in found for index in chosen]) for found in unseen]):
            return False
    return True


def holds_rule(word, claim, certificate):
    """Whether the certificate is right for a claim about a condition; None stands for a claim of a wrong form."""
    if claim is None:
        return False
    return holds_follows(claim, certificate) if word == "follows" else holds_broken(claim, certificate)


def holds_view(word, claim, certificate):
    """Whether the certificate is right for a claim about a view; None stands for a claim of a wrong form."""
    if claim is None:
        return False
    if word == "determined":
        return holds_determined(claim, certificate)
    if word == "greatest determined":
        return holds_greatest(claim, certificate)
    return holds_spot(claim, certificate, "total" if word == "not determined" else "greatest")


def holds_plain(word, pieces, certificate):
    """Whether the certificate is right for the claim with this word and these further pieces."""
    if word in ("follows", "does not follow"):
        return holds_rule(word, rule_claim(pieces), certificate)
    if word in ("determined", "not determined", "greatest determined", "greatest not determined"):
        return holds_view(word, view_claim(pieces), certificate)
    if word == "price":
        claim = price_claim(pieces)
        return claim is not None and holds_price(claim, certificate)
    return False


def holds(claim, certificate):
    """Whether the certificate has the form, and meets the conditions, that the claim asks for."""
    if not is_plain(claim) or not is_plain(certificate):
        return False
    if not isinstance(claim, tuple) or not claim:
        return False
    return holds_plain(claim[0], claim[1:], certificate)
