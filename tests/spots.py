"""A second reading of the document about blind spots, counts and plans, with tables that are added up here."""

import itertools

from tests import sights

MEASURES = {
    "total": sum,
    "greatest": lambda amounts: max(amounts, default=None),
    "least": lambda amounts: min(amounts, default=None),
}


def ancestors_of(entries):
    """For each member the dict of the members that it reaches by their levels."""
    rows = {entry[0]: entry for entry in entries}
    found = {}

    def climb(name):
        if name not in found:
            found[name] = {rows[name][1]: name}
            for parent in rows[name][3]:
                found[name].update(climb(parent))
        return found[name]

    for name in rows:
        climb(name)
    return found


def amounts_by_cell(dataset, view):
    """For all cells of a view the list of the amounts that go into it, from the entries and facts of a dataset."""
    tables = [ancestors_of(hierarchy.entries) for hierarchy in dataset.hierarchies]
    members = [
        ["*"] if level == "*" else sorted(entry[0] for entry in hierarchy.entries if entry[1] == level)
        for hierarchy, level in zip(dataset.hierarchies, view)
    ]
    found = {cell: [] for cell in itertools.product(*members)}
    for place, amount in dataset.facts:
        cell = tuple("*" if level == "*" else table[name].get(level)
                     for table, name, level in zip(tables, place, view))
        if None not in cell:
            found[cell].append(amount)
    return found


def values(dataset, view, measure="total"):
    """For all cells of a view the total, the greatest or the least."""
    return {cell: MEASURES[measure](amounts) for cell, amounts in amounts_by_cell(dataset, view).items()}


def alike(first, second, view, measure="total"):
    """Whether two datasets have the same values in all cells of a view."""
    return values(first, view, measure) == values(second, view, measure)


def counts(cube, wanted, stored):
    """For each base cell shape that passes the wanted view, by its texts, the indexes for which it counts."""
    return {
        sights.texts(plains): [index for index, _ in sights.seen_by(plains, wanted, stored)]
        for group in sights.groups(cube, wanted).values() for plains in group
    }


def determined(cube, wanted, stored, measure="total"):
    """Whether totals, greatest or least are determined."""
    if measure == "total":
        return sights.has_formula(cube, wanted, stored)
    return all(counts(cube, wanted, stored).values())


def views_of(cube):
    """The list of all views of a cube."""
    return list(itertools.product(*[(*schema.levels, "*") for schema in cube.schemas]))


def subsets(count):
    """All sets of so many indexes, as ascending tuples."""
    for size in range(count + 1):
        yield from itertools.combinations(range(count), size)
