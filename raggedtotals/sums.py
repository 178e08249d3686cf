"""Formulas: totals as weighted sums of stored totals, and whether there are any."""

from math import lcm

from raggedtotals.cellshapes import check_few, texts_within
from raggedtotals.cubes import check_cube, check_stored, check_view
from raggedtotals.datasets import cell_above, check_cell, check_dataset, totals_by_cell
from raggedtotals.equations import counts_at, equations_of, groups_at
from raggedtotals.errors import InvalidMeasure, OtherCube
from raggedtotals.limits import EVERYTHING
from raggedtotals.linear import solve
from raggedtotals.products import all_tuples


def check_question(cube, wanted, stored):
    """Raise an error if these values are not a cube, a view of it, and a tuple of views of it."""
    check_cube(cube)
    check_view(cube, wanted)
    check_stored(cube, stored)


def check_measure(value):
    """Raise InvalidMeasure if the value is not the word of a measure."""
    if not isinstance(value, str) or value not in ("total", "greatest", "least"):
        raise InvalidMeasure(value)


def terms_for(part, group, stored):
    """The terms of the row for a part at the wanted view; None if there are none that do."""
    columns, rows = equations_of(part, group, stored)
    weights, _ = solve(rows, (1,) * len(rows))
    if weights is None:
        return None
    return tuple([(*column, *weight) for column, weight in zip(columns, weights) if weight[0] != 0])


def rows_for(cube, wanted, stored):
    """The tuple of the rows of a formula; None if there is none."""
    rows = []
    for part, group in groups_at(cube, wanted):
        terms = terms_for(part, group, stored)
        if terms is None:
            return None
        rows.append((part, terms))
    return tuple(rows)


def all_count(cube, wanted, stored):
    """Whether each base cell shape that passes the wanted view counts for some index of the stored views."""
    return all([len(indexes) > 0 for _, indexes in counts_at(cube, wanted, stored)])


def members_into(hierarchy, name, shape):
    """What stands in a dimension of cells with this shape there that go into a cell with this name there."""
    # Only below everything can the stored cell have everything, too.
    if shape == EVERYTHING:
        return [EVERYTHING]
    lowers = hierarchy.members(shape.level) if name == EVERYTHING else hierarchy.below(name, shape.level)
    return [lower for lower in lowers if hierarchy.shape(lower) == shape]


def cells_into(dataset, cell, shapes):
    """The list of the cells with this cell shape that go into the cell."""
    rows = [
        members_into(hierarchy, name, shape) for hierarchy, name, shape in zip(dataset.hierarchies, cell, shapes)
    ]
    return all_tuples(rows)


def weights_by_index(terms, common):
    """For each index of terms the weights of cell shapes by their texts, as integers over a common denominator."""
    weights = {}
    for index, shapes, numerator, denominator in terms:
        weights.setdefault(index, {})[texts_within(shapes)] = numerator * (common // denominator)
    return weights


class Formula:
    """Weights of stored totals, by the shapes of members, whose sums are the totals of a wanted view."""

    def __init__(self, cube, wanted, stored, rows):
        self._cube = cube
        self._wanted = wanted
        self._stored = stored
        self._rows = rows
        self._terms = {texts_within(part): terms for part, terms in rows}

    @property
    def cube(self):
        """The cube of the views."""
        return self._cube

    @property
    def wanted(self):
        """The wanted view."""
        return self._wanted

    @property
    def stored(self):
        """The tuple of the stored views."""
        return self._stored

    @property
    def rows(self):
        """The tuple of the rows, pairs of a cell shape of the wanted view and its terms."""
        return self._rows

    def used(self, dataset, cell):
        """The ascending tuple of the stored cells that are used for the cell, with their indexes and weights."""
        found = []
        for index, shapes, numerator, denominator in self._terms_at(dataset, cell):
            found.extend([(index, lower, numerator, denominator) for lower in cells_into(dataset, cell, shapes)])
        return tuple(sorted(found))

    def answer(self, dataset, cell):
        """The total of the cell that the formula gives."""
        self._check(dataset, cell)
        tables = [totals_by_cell(dataset, view) for view in self._stored]
        return self.answer_by(dataset, cell, tables)

    def answer_by(self, dataset, cell, tables):
        """The same, from tables of the totals of stored cells, one for each stored view; a missing total is 0."""
        terms = self._terms_at(dataset, cell)
        common = 1
        for term in terms:
            common = lcm(common, term[3])
        weights = weights_by_index(terms, common)
        total = 0
        for index in weights:
            for lower in tables[index]:
                if cell_above(dataset.hierarchies, lower, self._wanted) == cell:
                    texts = texts_within(dataset.cell_shape(self._stored[index], lower))
                    total = total + weights[index].get(texts, 0) * tables[index][lower]
        return total // common

    def _check(self, dataset, cell):
        """Raise an error if these are not a dataset of the cube and a cell of the wanted view."""
        check_dataset(dataset)
        if dataset.cube != self._cube:
            raise OtherCube()
        check_cell(dataset, self._wanted, cell)

    def _terms_at(self, dataset, cell):
        """The terms for a cell of the wanted view in the dataset."""
        self._check(dataset, cell)
        shapes = dataset.cell_shape(self._wanted, cell)
        return self._terms.get(texts_within(shapes), ())

    def __len__(self):
        return len(self._rows)

    def __repr__(self):
        return f"Formula({len(self._rows)} rows)"


def find_formula(cube, wanted, stored):
    """A formula for the wanted view and the stored views; None if there is none."""
    check_question(cube, wanted, stored)
    check_few(cube, wanted)
    rows = rows_for(cube, wanted, stored)
    if rows is None:
        return None
    return Formula(cube, wanted, stored, rows)


def is_determined(cube, wanted, stored, *, measure="total"):
    """Whether the totals, the greatest or the least of the wanted view are determined by the stored views."""
    check_question(cube, wanted, stored)
    check_measure(measure)
    check_few(cube, wanted)
    if measure == "total":
        return rows_for(cube, wanted, stored) is not None
    return all_count(cube, wanted, stored)
