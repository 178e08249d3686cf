"""Complete lists of shapes, as certificates have them: what they say is looked at shape by shape."""

from raggedtotals.candidates import agree, shape_from, table_of
from raggedtotals.errors import InvalidText
from raggedtotals.shapes import Shape


def shape_of(text):
    """The shape with this text; None if any value is not the text of a shape."""
    try:
        return Shape.read(text)
    except InvalidText:
        return None


def listed_shapes(schema, texts):
    """The shapes with these texts under them; None if a value is not a tuple of different texts of fitting shapes."""
    if not isinstance(texts, tuple):
        return None
    listed = {}
    for text in texts:
        shape = shape_of(text)
        if shape is None or text in listed or not schema.fits(shape):
            return None
        listed[text] = shape
    return listed


def shapes_over(level, tables, signs):
    """Yield the shapes of a level with all choices of what is above it, and of its mark among these signs.

    For each level to which links lead `tables` has the tables of the shapes that there are to choose from.
    """
    waiting = [(list(tables), (), {})]
    while waiting:
        left, chosen, table = waiting.pop()
        if left:
            upper, *rest = left
            waiting.append((rest, chosen, table))
            joined = [{**table, **other} for other in tables[upper] if agree(table, other)]
            waiting.extend([(rest, (*chosen, upper), both) for both in joined])
        else:
            for sign in signs:
                yield shape_from(level, {**table, level: (chosen, sign)})


def has_listed_parts(listed, shape):
    """Whether all parts of a shape are listed; otherwise no shape has to be listed because of it."""
    return all([str(shape.part(level)) in listed for level in shape.levels])


def is_complete(schema, listed):
    """Whether each fitting shape is listed that keeps the rules of its level, and whose other parts are listed."""
    closed = [shape for shape in listed.values() if has_listed_parts(listed, shape)]
    for level in schema.levels:
        tables = {
            upper: [table_of(shape) for shape in closed if shape.level == upper] for upper in schema.above(level)
        }
        signs = schema.marks_of(level) or (None,)
        conditions = [condition for place, condition in schema.rules if place == level]
        for shape in shapes_over(level, tables, signs):
            if str(shape) not in listed and all([condition(shape) for condition in conditions]):
                return False
    return True


def complete_shapes(schema, texts):
    """The list of the shapes of a complete list; None if any plain value is not one for the schema."""
    listed = listed_shapes(schema, texts)
    if listed is None or not is_complete(schema, listed):
        return None
    return list(listed.values())
