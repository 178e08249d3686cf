"""The allowed shapes of all levels of a schema, built from the highest levels down.

A table stands for what is above a level: for each level it has the upper levels of its links and its mark.
"""

from raggedtotals.errors import TooMany
from raggedtotals.limits import MAX_SHAPES
from raggedtotals.shapes import Shape


def table_of(shape):
    """The table of all levels of a shape."""
    return {
        level: (tuple([upper for lower, upper in shape.links if lower == level]), shape.mark(level))
        for level in shape.levels
    }


def agree(table, other):
    """Whether two tables say the same of the levels that they share."""
    return all([table.get(level, other[level]) == other[level] for level in other])


def choices_above(uppers, marks, allowed):
    """The pairs of chosen upper levels and the table of what is above, for a level with links to these uppers."""
    choices = [((), {})]
    for upper in uppers:
        tables = [table_of(shape) for shape in allowed[upper]]
        further = [
            ((*chosen, upper), {**table, **other})
            for chosen, table in choices for other in tables if agree(table, other)
        ]
        choices = choices + further
        # Each choice is a candidate as it is, once for each mark, so there are never fewer of them later.
        if len(choices) * len(marks) > MAX_SHAPES:
            raise TooMany(MAX_SHAPES)
    return choices


def shape_from(level, table):
    """The shape of the level that has this table."""
    links = [(lower, upper) for lower in table for upper in table[lower][0]]
    marks = tuple([(place, table[place][1]) for place in table if table[place][1] is not None])
    return Shape(level, *links, marks=marks)


def candidates(level, uppers, marks, allowed):
    """The candidates of a level, from the allowed shapes of the levels above; TooMany if they exceed the limit."""
    signs = marks or (None,)
    choices = choices_above(uppers, signs, allowed)
    return [shape_from(level, {**table, level: (chosen, sign)}) for chosen, table in choices for sign in signs]


def allowed_shapes(above, marks, rules):
    """The allowed shapes of each level in the order of their texts.

    For each level `above` has the upper levels of its links, and `marks` has its marks.
    """
    allowed = {}
    while len(allowed) < len(above):
        for level in above:
            if level in allowed or any([upper not in allowed for upper in above[level]]):
                continue
            conditions = [condition for place, condition in rules if place == level]
            shapes = candidates(level, above[level], marks[level], allowed)
            kept = [shape for shape in shapes if all([condition(shape) for condition in conditions])]
            allowed[level] = tuple(sorted(kept, key=str))
    return allowed
