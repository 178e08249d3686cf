"""Shapes of cells: the base cell shapes of a cube, their parts, and what is below what."""

from raggedtotals.cubes import check_cube, check_view, is_everything
from raggedtotals.errors import InvalidShapes, TooMany
from raggedtotals.limits import EVERYTHING, MAX_SHAPES
from raggedtotals.products import tuple_by_tuple
from raggedtotals.shapes import Shape


def is_shape_in(schema, value):
    """Whether any value is an allowed shape of the schema, or the sign for everything."""
    return is_everything(value) or isinstance(value, Shape) and schema.allows(value)


def check_shapes(cube, shapes):
    """Raise InvalidShapes if the value is not a cell shape of a view of the cube."""
    if not isinstance(shapes, tuple) or len(shapes) != len(cube):
        raise InvalidShapes(None)
    for index, schema in enumerate(cube.schemas):
        if not is_shape_in(schema, shapes[index]):
            raise InvalidShapes(index)


def base_shapes(schema, level):
    """The list of the allowed shapes of the base that reach the level, or of all of them for everything."""
    return [shape for shape in schema.shapes(schema.base) if level == EVERYTHING or level in shape]


def rows_passing(cube, view):
    """For each dimension the list of the shapes that base cell shapes which pass the view have there."""
    return [base_shapes(schema, level) for schema, level in zip(cube.schemas, view)]


def check_few(cube, wanted):
    """Raise TooMany if more base cell shapes pass the wanted view than the limit lets through."""
    count = 1
    for row in rows_passing(cube, wanted):
        count = count * len(row)
    if count > MAX_SHAPES:
        raise TooMany(MAX_SHAPES)


def passing(cube, view):
    """Yield all base cell shapes that pass the view, in ascending order of the tuples of their texts."""
    check_cube(cube)
    check_view(cube, view)
    rows = rows_passing(cube, view)
    for shapes in tuple_by_tuple(rows):
        yield shapes


def part_within(shapes, view):
    """The part of a cell shape at the view; None if the cell shape does not pass it."""
    parts = []
    for shape, level in zip(shapes, view):
        if level == EVERYTHING:
            parts.append(EVERYTHING)
        elif is_everything(shape) or level not in shape:
            return None
        else:
            parts.append(shape.part(level))
    return tuple(parts)


def lies_below(shapes, upper):
    """Whether a cell shape is below another one."""
    levels = [EVERYTHING if is_everything(shape) else shape.level for shape in upper]
    return part_within(shapes, levels) == upper


def texts_within(shapes):
    """The tuple of the texts of a cell shape."""
    return tuple([str(shape) for shape in shapes])


def part_at(cube, shapes, view):
    """The part of a cell shape of any view at this view; None if it does not pass it."""
    check_cube(cube)
    check_shapes(cube, shapes)
    check_view(cube, view)
    return part_within(shapes, view)


def is_below(cube, shapes, upper):
    """Whether a cell shape is below another one, both of any views."""
    check_cube(cube)
    check_shapes(cube, shapes)
    check_shapes(cube, upper)
    return lies_below(shapes, upper)


def texts_of(cube, shapes):
    """The tuple of the texts of a cell shape, with the sign for everything as it is."""
    check_cube(cube)
    check_shapes(cube, shapes)
    return texts_within(shapes)
