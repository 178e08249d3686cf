"""For which stored views base cell shapes count, and the equations that the weights of a formula solve for them."""

from raggedtotals.cellshapes import lies_below, part_within, passing, texts_within
from raggedtotals.linear import solve


def groups_at(cube, wanted):
    """The pairs (part, base cell shapes) of all parts at the wanted view, in ascending order of their texts."""
    groups = {}
    for shapes in passing(cube, wanted):
        part = part_within(shapes, wanted)
        groups.setdefault(texts_within(part), (part, []))[1].append(shapes)
    return [groups[texts] for texts in sorted(groups)]


def seen_parts(shapes, part, stored):
    """The pairs (index, part there) of the stored views for which a base cell shape with this wanted part counts."""
    found = []
    for index, view in enumerate(stored):
        lower = part_within(shapes, view)
        if lower is not None and lies_below(lower, part):
            found.append((index, lower))
    return found


def counts_at(cube, wanted, stored):
    """The pairs (base cell shape, indexes for which it counts) of all that pass the wanted view, in their order."""
    found = []
    for shapes in passing(cube, wanted):
        part = part_within(shapes, wanted)
        found.append((shapes, [index for index, _ in seen_parts(shapes, part, stored)]))
    return found


def equations_of(part, group, stored):
    """The pair (columns, rows) of the equations for a part at the wanted view.

    A column is a pair (index, cell shape of this stored view); they stand in the order that terms have. There is a
    row for each base cell shape of the group, with 1 for each index and cell shape that it has, and 0 for the others.
    """
    columns = {}
    counted = []
    for shapes in group:
        found = {}
        for index, lower in seen_parts(shapes, part, stored):
            key = (index, texts_within(lower))
            columns[key] = (index, lower)
            found[key] = True
        counted.append(found)
    order = sorted(columns)
    rows = [tuple([int(place in keys) for place in order]) for keys in counted]
    return [columns[place] for place in order], tuple(rows)


def rows_among(columns, rows, chosen):
    """The tuple of the rows of equations that remain if only the stored views with the chosen indexes are there."""
    places = [place for place, column in enumerate(columns) if column[0] in chosen]
    return tuple([tuple([row[place] for place in places]) for row in rows])


def obstacle_of_ones(rows):
    """The obstacle of equations with these rows and the goal 1 in each of them; None if they have a solution."""
    _, obstacle = solve(rows, (1,) * len(rows))
    return obstacle
