"""A second reading of the document about cell shapes and formulas, with plain shapes of the model and fractions.

A plain cell shape is a tuple of plain shapes and "*".
"""

import itertools
import random
from fractions import Fraction

from raggedtotals.cubes import Cube
from raggedtotals.schemas import Schema
from tests import model
from tests.test_consequences import random_schemas


def plain_of(shape):
    """The plain shape of a shape; everything stays as it is."""
    return shape if shape == "*" else (shape.level, frozenset(shape.links), dict(shape.marks))


def plain_cell(shapes):
    """The plain cell shape of a cell shape."""
    return tuple(plain_of(shape) for shape in shapes)


def texts(plains):
    """The tuple of the texts of a plain cell shape."""
    return tuple("*" if plain == "*" else model.text_of_plain(plain) for plain in plains)


def passes(plains, view):
    """Whether each level of the view is reached."""
    return all(level == "*" or (plain != "*" and level in model.above(plain[1], plain[0]))
               for plain, level in zip(plains, view))


def part(plains, view):
    """The part at a view that is passed."""
    return tuple("*" if level == "*" else model.part_of(plain, level) for plain, level in zip(plains, view))


def below(plains, upper):
    """Whether a plain cell shape is below another one."""
    return all(
        other == "*" or (plain != "*" and other[0] in model.above(plain[1], plain[0])
                         and model.part_of(plain, other[0]) == other)
        for plain, other in zip(plains, upper)
    )


def base_cells(cube):
    """The list of all plain base cell shapes of a cube, in the order of their texts."""
    lists = [[plain_of(shape) for shape in schema.shapes(schema.base)] for schema in cube.schemas]
    return sorted(itertools.product(*lists), key=texts)


def groups(cube, wanted):
    """The plain base cell shapes that pass the wanted view, by the texts of their parts there."""
    found = {}
    for plains in base_cells(cube):
        if passes(plains, wanted):
            found.setdefault(texts(part(plains, wanted)), []).append(plains)
    return found


def seen_by(plains, wanted, stored):
    """The list of the pairs (index, texts of the part) for which a base cell shape counts."""
    upper = part(plains, wanted)
    return [(index, texts(part(plains, view))) for index, view in enumerate(stored)
            if passes(plains, view) and below(part(plains, view), upper)]


def echelon(rows):
    """These rows of fractions with steps, and without rows of zeros."""
    left, out = [[Fraction(number) for number in row] for row in rows], []
    for place in range(len(rows[0]) if rows else 0):
        first = next((row for row in left if row[place]), None)
        if first is not None:
            left.remove(first)
            out.append(first)
            left = [[one - row[place] / first[place] * other for one, other in zip(row, first)] for row in left]
    return out


def solvable(rows, goal):
    """Whether the equations have a solution: whether the goal adds no step."""
    if not rows:
        return True
    return len(echelon([[*row, number] for row, number in zip(rows, goal)])) == len(echelon(rows))


def matrix(group, wanted, stored):
    """The equations for the weights of a group."""
    counted = [seen_by(plains, wanted, stored) for plains in group]
    columns = sorted({key for keys in counted for key in keys})
    return [[int(key in keys) for key in columns] for keys in counted]


def has_formula(cube, wanted, stored):
    """Whether the weights of all rows can be found."""
    return all(solvable(matrix(group, wanted, stored), [1] * len(group)) for group in groups(cube, wanted).values())


def kernel_value(rows, goal):
    """Integers by which the rows add up to 0 and the goal does not, found by steps on rows with a mark for each."""
    marked = [[*row, *[int(at == place) for place in range(len(rows))]] for at, row in enumerate(rows)]
    width = len(rows[0])
    for row in echelon(marked):
        values = row[width:]
        if not any(row[:width]) and sum(value * number for value, number in zip(values, goal)):
            whole = 1
            for value in values:
                whole *= value.denominator
            return [int(value * whole) for value in values]
    return None


def renamed_tree(tree, names):
    """A tree with other names of levels."""
    word, *items = tree
    if word == "marked":
        return (word, names.get(items[0], items[0]), items[1])
    if word in model.ATOMS:
        return (word, *[names.get(item, item) for item in items])
    return (word, *[renamed_tree(item, names) for item in items])


def renamed(links, marks, trees, names):
    """The schema with these pieces and other names of levels."""
    rows = tuple((names[level], *marks[level]) for level in marks)
    rules = tuple((names[level], model.condition_of(renamed_tree(tree, names))) for level, tree in trees)
    return Schema(names["a"], *[(names[lower], names[upper]) for lower, upper in links], marks=rows, rules=rules)


def some_schemas(seed, count):
    """Schemas with possible bases, half of them with levels whose names stand in another order."""
    found = []
    for chance, schema, links, marks, trees in random_schemas(seed, count):
        if chance.random() < 0.5:
            names = ["a", "ab", "b", "b1", "c"]
            chance.shuffle(names)
            schema = renamed(links, marks, trees, dict(zip("abcde", names)))
        if list(schema.shapes(schema.base)):
            found.append(schema)
    return found


def random_cubes(seed, count, most=60):
    """Cubes with a wanted view that few base cell shapes pass, and stored views."""
    schemas = some_schemas(seed, 150)
    chance = random.Random(seed)
    sizes = {row: len(list(schema.shapes(schema.base))) for row, schema in enumerate(schemas)}
    while count:
        size = chance.choice((1, 1, 1, 2, 2, 3))
        known = [row for row in sizes if sizes[row] <= (0, 60, 8, 4)[size]]
        cube = Cube(*[schemas[chance.choice(known)] for _ in range(size)])
        views = list(itertools.product(*[(*schema.levels, "*") for schema in cube.schemas]))
        wanted = chance.choice(views)
        stored = tuple(chance.choice(views) for _ in range(chance.randint(0, 7)))
        if sum(passes(plains, wanted) for plains in base_cells(cube)) <= most:
            count -= 1
            yield chance, cube, wanted, stored
