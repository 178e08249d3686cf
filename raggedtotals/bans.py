"""Bans of base shapes: conditions for single shapes, and the fewest bans that determine a view."""

from raggedtotals.cellshapes import passing
from raggedtotals.choices import cheapest_good
from raggedtotals.conditions import All, Marked, Not, Way
from raggedtotals.cubes import Cube, check_stored, check_view
from raggedtotals.equations import equations_of, groups_at, obstacle_of_ones
from raggedtotals.errors import InvalidShapes, NotAllowed, TooMany
from raggedtotals.limits import MAX_BANNED, MAX_RULES
from raggedtotals.schemas import Schema, check_schema
from raggedtotals.shapes import Shape, check_shape


def ways_within(shape):
    """For each level of the shape the levels on a way to it, from above the level of the shape on."""
    ways = {shape.level: ()}
    waiting = [shape.level]
    while waiting:
        lower = waiting.pop()
        for link in shape.links:
            if link[0] == lower and link[1] not in ways:
                ways[link[1]] = (*ways[lower], link[1])
                waiting.append(link[1])
    return ways


def condition_of(schema, shape):
    """The condition that an allowed shape makes true, and that all others of its level make false."""
    ways = ways_within(shape)
    conditions = []
    for lower, upper in schema.links:
        if lower in ways:
            steps = (*ways[lower], upper)
            way = Way(*steps)
            conditions.append(way if (lower, upper) in shape.links else Not(way))
    conditions.extend([Marked(level, mark) for level, mark in shape.marks])
    return All(*conditions)


def exactly(schema, shape):
    """A condition that the shape makes true and that all other allowed shapes of its level make false."""
    check_schema(schema)
    check_shape(shape)
    if not schema.allows(shape):
        raise NotAllowed(shape)
    return condition_of(schema, shape)


def check_banned(schema, shapes):
    """Raise InvalidShapes if these values are not different allowed shapes of the base."""
    seen = {}
    for index, shape in enumerate(shapes):
        if not isinstance(shape, Shape) or shape.level != schema.base or not schema.allows(shape):
            raise InvalidShapes(index)
        if str(shape) in seen:
            raise InvalidShapes(index)
        seen[str(shape)] = True


def with_bans(schema, *shapes):
    """The schema with a rule for each of these shapes that bans it."""
    check_schema(schema)
    check_banned(schema, shapes)
    if len(schema.rules) + len(shapes) > MAX_RULES:
        raise TooMany(MAX_RULES)
    base, links, marks = schema.base, schema.links, schema.marks
    bans = [(base, Not(condition_of(schema, shape))) for shape in shapes]
    rules = (*schema.rules, *bans)
    return Schema(base, *links, marks=marks, rules=rules)


def fewest_away(rows):
    """The indexes of as few of these rows as possible without which the equations with the goal 1 have a solution."""

    def hurdle_for(chosen):
        """The rows of an obstacle that is there without the chosen ones: one of them must go."""
        kept = [place for place in range(len(rows)) if place not in chosen]
        numbers = obstacle_of_ones(tuple([rows[place] for place in kept]))
        if numbers is None:
            return None
        return [place for place, number in zip(kept, numbers) if number != 0], None

    away, _, _ = cheapest_good((1,) * len(rows), hurdle_for)
    return away


def fewest_bans(schema, wanted, stored):
    """As few shapes of the base as possible without which the stored views determine the wanted one."""
    check_schema(schema)
    cube = Cube(schema)
    check_view(cube, wanted)
    # This needs the schema and the wanted view alone, so it comes before the stored views.
    if len(list(passing(cube, wanted))) > MAX_BANNED:
        raise TooMany(MAX_BANNED)
    check_stored(cube, stored)
    banned = []
    for part, group in groups_at(cube, wanted):
        _, rows = equations_of(part, group, stored)
        banned.extend([group[place][0] for place in fewest_away(rows)])
    return tuple(sorted(banned, key=str))
