"""Datasets: facts over hierarchies, and the totals that they have in the cells of views."""

from raggedtotals.cubes import Cube, check_view, is_everything
from raggedtotals.errors import InvalidCell, InvalidFacts, InvalidHierarchies, NotADataset
from raggedtotals.hierarchies import Hierarchy
from raggedtotals.integers import is_integer
from raggedtotals.limits import EVERYTHING, MAX_DIMENSIONS
from raggedtotals.products import tuple_by_tuple


def check_hierarchies(hierarchies):
    """Raise InvalidHierarchies if these values are not the hierarchies of a dataset."""
    if len(hierarchies) < 1 or len(hierarchies) > MAX_DIMENSIONS:
        raise InvalidHierarchies(None)
    for index, hierarchy in enumerate(hierarchies):
        if not isinstance(hierarchy, Hierarchy):
            raise InvalidHierarchies(index)


def is_member_at(hierarchy, level, value):
    """Whether any value is a member of the level, or the sign for everything where a view has it."""
    if level == EVERYTHING:
        return is_everything(value)
    return value in hierarchy and hierarchy.entry(value)[1] == level


def is_cell_of(hierarchies, view, value):
    """Whether any value is a cell of the view for these hierarchies."""
    if not isinstance(value, tuple) or len(value) != len(view):
        return False
    return all([is_member_at(hierarchy, level, name) for hierarchy, level, name in zip(hierarchies, view, value)])


def is_fact(hierarchies, base, value):
    """Whether any value is a pair of a cell of the base view and an integer."""
    if not isinstance(value, tuple) or len(value) != 2:
        return False
    return is_cell_of(hierarchies, base, value[0]) and is_integer(value[1])


def check_facts(hierarchies, base, facts):
    """Raise InvalidFacts if the value is not a tuple of facts with different cells."""
    if not isinstance(facts, tuple):
        raise InvalidFacts(None)
    seen = {}
    for index, fact in enumerate(facts):
        if not is_fact(hierarchies, base, fact) or fact[0] in seen:
            raise InvalidFacts(index)
        seen[fact[0]] = True


def check_dataset(value):
    """Raise NotADataset if the value is not a dataset."""
    if not isinstance(value, Dataset):
        raise NotADataset(value)


def check_cell(dataset, view, value):
    """Raise InvalidCell if the value is not a cell of the view of the dataset."""
    if not is_cell_of(dataset.hierarchies, view, value):
        raise InvalidCell(value)


def name_above(hierarchy, name, level):
    """What stands above a member, or above everything, where a view has this level; None if there is nothing."""
    if level == EVERYTHING:
        return EVERYTHING
    if name == EVERYTHING:
        return None
    return hierarchy.ancestor(name, level)


def cell_above(hierarchies, cell, view):
    """The cell of the view that a cell goes into; None if there is none."""
    names = [name_above(hierarchy, name, level) for hierarchy, name, level in zip(hierarchies, cell, view)]
    return None if None in names else tuple(names)


def amounts_at(dataset, view, cell):
    """The amounts of all facts whose cells go into the cell of the view."""
    check_view(dataset.cube, view)
    check_cell(dataset, view, cell)
    return [amount for place, amount in dataset.facts if cell_above(dataset.hierarchies, place, view) == cell]


def totals_by_cell(dataset, view):
    """The totals of those cells of the view that the cells of facts go into."""
    totals = {}
    for place, amount in dataset.facts:
        cell = cell_above(dataset.hierarchies, place, view)
        if cell is not None:
            totals[cell] = totals.get(cell, 0) + amount
    return totals


def greatest_by_cell(dataset, view):
    """The greatest amounts of those cells of the view that the cells of facts go into."""
    found = {}
    for place, amount in dataset.facts:
        cell = cell_above(dataset.hierarchies, place, view)
        if cell is not None:
            found[cell] = max(amount, found.get(cell, amount))
    return found


def greatest_differ(first, second, view):
    """Whether two datasets with the same hierarchies have different greatest amounts in some cell of the view."""
    return greatest_by_cell(first, view) != greatest_by_cell(second, view)


def totals_differ(first, second, view):
    """Whether two datasets with the same hierarchies have different totals in some cell of the view."""
    totals, others = totals_by_cell(first, view), totals_by_cell(second, view)
    return any([totals.get(cell, 0) != others.get(cell, 0) for cell in [*totals, *others]])


class Dataset:
    """One to three hierarchies, and facts with different cells of the base view."""

    def __init__(self, *hierarchies, facts=()):
        check_hierarchies(hierarchies)
        schemas = [hierarchy.schema for hierarchy in hierarchies]
        cube = Cube(*schemas)
        check_facts(hierarchies, cube.base, facts)
        self._hierarchies = hierarchies
        self._cube = cube
        self._facts = tuple(sorted(facts))

    @property
    def hierarchies(self):
        """The tuple of the hierarchies of the dimensions."""
        return self._hierarchies

    @property
    def cube(self):
        """The cube of the schemas of the hierarchies."""
        return self._cube

    @property
    def facts(self):
        """The ascending tuple of the facts."""
        return self._facts

    def is_cell(self, view, value):
        """Whether any value is a cell of the view."""
        check_view(self._cube, view)
        return is_cell_of(self._hierarchies, view, value)

    def cells(self, view):
        """Yield all cells of the view in ascending order."""
        check_view(self._cube, view)
        rows = [
            (EVERYTHING,) if level == EVERYTHING else hierarchy.members(level)
            for hierarchy, level in zip(self._hierarchies, view)
        ]
        for cell in tuple_by_tuple(rows):
            yield cell

    def total(self, view, cell):
        """The sum of the amounts of all facts whose cells go into the cell."""
        return sum(amounts_at(self, view, cell))

    def greatest(self, view, cell):
        """The greatest of these amounts; None without facts."""
        return max(amounts_at(self, view, cell), default=None)

    def least(self, view, cell):
        """The least of these amounts; None without facts."""
        return min(amounts_at(self, view, cell), default=None)

    def fact_count(self, view, cell):
        """The number of these facts."""
        return len(amounts_at(self, view, cell))

    def table(self, view):
        """The ascending tuple of the pairs of a cell and its total, for all cells of the view."""
        check_view(self._cube, view)
        totals = totals_by_cell(self, view)
        return tuple([(cell, totals.get(cell, 0)) for cell in self.cells(view)])

    def cell_shape(self, view, cell):
        """The tuple of the shapes of the members of the cell, with the sign for everything as it is."""
        check_view(self._cube, view)
        check_cell(self, view, cell)
        return tuple([
            EVERYTHING if name == EVERYTHING else hierarchy.shape(name)
            for hierarchy, name in zip(self._hierarchies, cell)
        ])

    def with_facts(self, facts):
        """The dataset with the same hierarchies and these facts."""
        return Dataset(*self._hierarchies, facts=facts)

    def __len__(self):
        return len(self._facts)

    def __eq__(self, other):
        return (isinstance(other, Dataset) and self._hierarchies == other._hierarchies
                and self._facts == other._facts)

    def __repr__(self):
        return f"Dataset({len(self._hierarchies)} dimensions, {len(self._facts)} facts)"
