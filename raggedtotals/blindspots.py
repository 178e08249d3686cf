"""Blind spots: two tables of facts that look alike in all stored views, but not in the wanted one."""

from raggedtotals.cellshapes import check_few, part_within
from raggedtotals.copies import copied, copied_cells
from raggedtotals.cubes import check_view
from raggedtotals.datasets import Dataset, totals_differ
from raggedtotals.equations import counts_at, equations_of, groups_at, obstacle_of_ones
from raggedtotals.limits import EVERYTHING
from raggedtotals.sums import check_measure, check_question


class BlindSpot:
    """Two datasets with the same hierarchies, and a cell of the wanted view in which they differ."""

    def __init__(self, first, second, cell):
        self._first = first
        self._second = second
        self._cell = cell

    @property
    def first(self):
        """The first dataset."""
        return self._first

    @property
    def second(self):
        """The second dataset."""
        return self._second

    @property
    def cell(self):
        """The cell of the wanted view."""
        return self._cell


def copies_at(cube, wanted, group):
    """For each dimension the hierarchy with the copies of the shapes that base cell shapes have there, and its names.

    Returned as a pair of lists.
    """
    pairs = []
    for place, schema in enumerate(cube.schemas):
        pairs.append(copied(schema, [shapes[place] for shapes in group], wanted[place]))
    return [hierarchy for hierarchy, _ in pairs], [names for _, names in pairs]


def first_cell(wanted, names, shapes):
    """The cell of the wanted view that the first copies of a base cell shape go into."""
    part = part_within(shapes, wanted)
    return tuple([
        EVERYTHING if level == EVERYTHING else copies[str(shape)][0]
        for level, copies, shape in zip(wanted, names, part)
    ])


def total_spot(cube, wanted, numbered):
    """The blind spot that an obstacle gives: pairs (base cell shape, integer) with one part at the wanted view.

    In a stored cell either both copies of a member cancel out, or the integers of one part there add up to 0.
    """
    used = [(shapes, number) for shapes, number in numbered if number != 0]
    hierarchies, names = copies_at(cube, wanted, [shapes for shapes, _ in used])
    facts = [(cell, number * sign) for shapes, number in used for cell, sign in copied_cells(names, shapes)]
    more = tuple([(cell, amount) for cell, amount in facts if amount > 0])
    less = tuple([(cell, -amount) for cell, amount in facts if amount < 0])
    cell = first_cell(wanted, names, used[0][0])
    return BlindSpot(Dataset(*hierarchies, facts=more), Dataset(*hierarchies, facts=less), cell)


def extreme_spot(cube, wanted, shapes, amount):
    """The blind spot of a base cell shape that does not count: the first of its copies has another amount than 1.

    Each stored cell that the first copies go into has other copies, too, with the amount 1.
    """
    hierarchies, names = copies_at(cube, wanted, [shapes])
    cells = [cell for cell, _ in copied_cells(names, shapes)]
    alike = tuple([(cell, 1) for cell in cells])
    other = ((cells[0], amount), *alike[1:])
    cell = first_cell(wanted, names, shapes)
    return BlindSpot(Dataset(*hierarchies, facts=alike), Dataset(*hierarchies, facts=other), cell)


def blind_total(cube, wanted, stored):
    """A blind spot for the totals; None if there is none."""
    for part, group in groups_at(cube, wanted):
        _, rows = equations_of(part, group, stored)
        numbers = obstacle_of_ones(rows)
        if numbers is not None:
            return total_spot(cube, wanted, list(zip(group, numbers)))
    return None


def blind_extreme(cube, wanted, stored, amount):
    """A blind spot for the greatest or the least, in which one fact has this amount; None if there is none."""
    for shapes, indexes in counts_at(cube, wanted, stored):
        if not indexes:
            return extreme_spot(cube, wanted, shapes, amount)
    return None


def find_blind_spot(cube, wanted, stored, *, measure="total"):
    """A blind spot for the wanted view and the stored views; None if there is none."""
    check_question(cube, wanted, stored)
    check_measure(measure)
    check_few(cube, wanted)
    if measure == "total":
        return blind_total(cube, wanted, stored)
    # Among amounts of 1, only less can hide below the greatest and only more above the least.
    return blind_extreme(cube, wanted, stored, 0 if measure == "greatest" else 2)


def sees(blind_spot, view):
    """Whether the totals of a blind spot differ in some cell of the view."""
    check_view(blind_spot.first.cube, view)
    return totals_differ(blind_spot.first, blind_spot.second, view)
