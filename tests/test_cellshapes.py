"""Shapes of cells: which base cell shapes pass a view, their parts, what is below what, and their texts."""

import itertools
import random
import unittest

from raggedtotals.cellshapes import is_below, part_at, passing, texts_of
from raggedtotals.conditions import Reaches
from raggedtotals.cubes import Cube
from raggedtotals.errors import InvalidShapes, InvalidView, NotACube
from raggedtotals.schemas import Schema
from raggedtotals.shapes import Shape
from tests import sights
from tests.helpers import Case, odd_values
from tests.places import Sly

CITIES = Schema("city", ("city", "state"))
CUBE = Cube(CITIES, Schema("item"))
STATE, ITEM = Shape("state"), Shape("item")
FULL = Shape("city", ("city", "state"))


def all_shapes(cube):
    """All cell shapes of all views of a cube."""
    lists = [["*"] + [shape for level in schema.levels for shape in schema.shapes(level)] for schema in cube.schemas]
    return list(itertools.product(*lists))


def all_views(cube):
    """All views of a cube."""
    return list(itertools.product(*[(*schema.levels, "*") for schema in cube.schemas]))


class ExampleTest(Case):
    def test_example(self):
        first = list(passing(CUBE, ("state", "*")))
        found = [
            len(first), texts_of(CUBE, first[0]), texts_of(CUBE, part_at(CUBE, first[0], ("state", "*"))),
            is_below(CUBE, first[0], (STATE, "*")), is_below(CUBE, ("*", "*"), (STATE, "*")),
            part_at(CUBE, (Shape("city"), "*"), ("state", "*")),
        ]
        self.same(found, [1, ("city city>state", "item"), ("state", "*"), True, False, None])


class PassingTest(Case):
    def test_a_generator(self):
        rows = passing(CUBE, ("*", "*"))
        self.assertIs(iter(rows), rows)
        self.assertEqual(next(rows), (Shape("city"), ITEM))
        self.assertEqual(list(rows), [(FULL, ITEM)])
        self.assertEqual(list(passing(view=("city", "item"), cube=CUBE)), list(passing(CUBE, ("*", "*"))))

    def test_nothing_passes(self):
        cube = Cube(CITIES.with_rule("state", ~Reaches("state")), Schema("item"))
        self.same([list(passing(cube, ("state", "*"))), len(list(passing(cube, ("*", "*"))))], [[], 1])
        cube = Cube(Schema("item"), CITIES.with_rule("city", ~Reaches("city")))
        self.same([list(passing(cube, view)) for view in all_views(cube)], [[]] * 6)

    def test_the_first_of_very_many(self):
        links, marks = (("a", "b"), ("a", "c")), (("a", "k", "l", "m", "n"), ("b", "x", "y"), ("c", "u", "v", "w", "x"))
        schema = Schema("a", *links, marks=marks)
        cube = Cube(schema, schema, schema)
        self.same(texts_of(cube, next(passing(cube, ("*", "*", "*")))), ("a a=k", "a a=k", "a a=k"))

    def test_order_by_texts(self):
        schema = Schema("a", ("a", "b"), ("a", "b1"), ("b", "b1"), marks=(("b1", "x", "x1"),))
        cube = Cube(schema, schema)
        found = [texts_of(cube, shapes) for shapes in passing(cube, ("*", "b1"))]
        self.same(found, sorted(found))
        self.same([len(found), len(set(found))], [10 * 8, 10 * 8])

    def test_as_in_the_model(self):
        for _, cube, wanted, stored in sights.random_cubes(31, 80, most=400):
            for view in (wanted, *stored):
                found = list(passing(cube, view))
                plains = [plain for plain in sights.base_cells(cube) if sights.passes(plain, view)]
                self.same([texts_of(cube, shapes) for shapes in found], [sights.texts(plain) for plain in plains])
                self.assertTrue(all(type(shapes) is tuple for shapes in found))


class PartTest(Case):
    def test_parts_of_cell_shapes_of_any_view(self):
        for shapes, view, wanted in (
            (("*", "*"), ("*", "*"), ("*", "*")), (("*", ITEM), ("*", "*"), ("*", "*")),
            (("*", "*"), ("*", "item"), None), ((STATE, ITEM), ("city", "*"), None),
            ((STATE, ITEM), ("state", "item"), (STATE, ITEM)), ((FULL, "*"), ("state", "*"), (STATE, "*")),
            ((FULL, ITEM), ("city", "*"), (FULL, "*")), ((Shape("city"), ITEM), ("state", "item"), None),
            (("*", ITEM), ("state", "item"), None),
        ):
            with self.subTest(shapes=shapes, view=view):
                self.assertEqual(part_at(CUBE, shapes, view), wanted)
                self.assertEqual(part_at(view=view, shapes=shapes, cube=CUBE), wanted)

    def test_below(self):
        marked = Schema("a", ("a", "b"), ("a", "c"), ("c", "b"), marks=(("b", "x", "y"),))
        cube = Cube(marked)
        for lower, upper, wanted in (
            ("a a>b b=x", "b b=x", True), ("a a>b b=x", "b b=y", False), ("b b=x", "a a>b b=x", False),
            ("a a>b b=x", "a a>b b=x", True), ("a a>b b=x", "a a>b b=y", False), ("a", "b b=x", False),
            ("a a>c c>b b=x", "b b=x", True), ("a a>c c>b b=x", "c c>b b=x", True), ("a a>c c>b b=x", "c", False),
            ("a a>c", "c", True), ("a a>b a>c b=x", "c", True), ("c c>b b=x", "b b=x", True), ("c", "b b=x", False),
        ):
            with self.subTest(lower=lower, upper=upper):
                pair = (Shape.read(lower),), (Shape.read(upper),)
                self.assertIs(is_below(cube, *pair), wanted)
                self.assertIs(is_below(upper=pair[1], shapes=pair[0], cube=cube), wanted)
                self.assertIs(is_below(cube, pair[0], ("*",)), True)
                self.assertIs(is_below(cube, ("*",), pair[1]), False)
        self.assertIs(is_below(cube, ("*",), ("*",)), True)

    def test_as_in_the_model(self):
        seen = {True: 0, False: 0}
        chance = random.Random(32)
        for _, cube, wanted, stored in sights.random_cubes(32, 60):
            shapes = all_shapes(cube)
            for lower in chance.sample(shapes, min(len(shapes), 10)):
                plain = sights.plain_cell(lower)
                self.same(texts_of(cube, lower), sights.texts(plain))
                self.same(texts_of(shapes=lower, cube=cube), sights.texts(plain))
                for view in (wanted, *stored):
                    found = part_at(cube, lower, view)
                    if sights.passes(plain, view):
                        self.same(texts_of(cube, found), sights.texts(sights.part(plain, view)))
                        self.assertEqual(part_at(cube, found, view), found)
                    else:
                        self.assertIsNone(found)
                for upper in chance.sample(shapes, min(len(shapes), 10)) + [lower]:
                    answer = sights.below(plain, sights.plain_cell(upper))
                    self.assertIs(is_below(cube, lower, upper), answer)
                    seen[answer] += 1
        self.assertTrue(min(seen.values()) > 500, seen)


class WrongTest(Case):
    GOOD = (FULL, ITEM)

    def test_values_that_are_no_cubes(self):
        for value in odd_values() + [Sly(), CITIES, CUBE.schemas, Cube]:
            fields = {"value": value}
            with self.subTest(value=value):
                self.raises(NotACube, fields, lambda: list(passing(value, 5)))
                self.raises(NotACube, fields, lambda: next(iter(passing(view=("*", "*"), cube=value))))
                self.raises(NotACube, fields, part_at, value, self.GOOD, ("*", "*"))
                self.raises(NotACube, fields, part_at, value, 5, 5)
                self.raises(NotACube, fields, is_below, upper=5, shapes=5, cube=value)
                self.raises(NotACube, fields, texts_of, value, 5)

    def test_values_that_are_no_views(self):
        for value in odd_values() + [Sly(), ("city",), ("item", "city"), ["*", "*"], ("*", "*", "*"), ("*", Sly()), "**",
                                     ("city", "state"), (FULL, ITEM), ("zone", "*")]:
            fields = {"value": value}
            with self.subTest(value=value):
                self.raises(InvalidView, fields, lambda: list(passing(CUBE, value)))
                self.raises(InvalidView, fields, part_at, CUBE, self.GOOD, value)
                self.raises(InvalidView, fields, part_at, view=value, shapes=self.GOOD, cube=CUBE)

    def every(self, index, shapes):
        """Check that all functions name this index for what is no cell shape."""
        fields = {"index": index}
        self.raises(InvalidShapes, fields, texts_of, CUBE, shapes)
        self.raises(InvalidShapes, fields, part_at, CUBE, shapes, ("*", "*"))
        self.raises(InvalidShapes, fields, part_at, view=5, shapes=shapes, cube=CUBE)
        self.raises(InvalidShapes, fields, is_below, CUBE, shapes, self.GOOD)
        self.raises(InvalidShapes, fields, is_below, CUBE, shapes, 5)
        self.raises(InvalidShapes, fields, is_below, CUBE, self.GOOD, shapes)
        self.raises(InvalidShapes, fields, is_below, upper=shapes, shapes=("*", "*"), cube=CUBE)

    def test_values_that_are_no_tuples_of_this_length(self):
        for value in odd_values() + [Sly(), [FULL, ITEM], (FULL,), (FULL, ITEM, "*"), ("*",), "**", (), ("*",) * 3]:
            if not isinstance(value, tuple) or len(value) != 2:
                with self.subTest(value=value):
                    self.every(None, value)

    def test_elements_that_are_no_allowed_shapes(self):
        wrong = odd_values() + [
            Sly(), "city", "**", "", Shape("zone"), Shape("city", ("city", "zone")), Shape("city", marks=(("city", "x"),)),
            Shape("state", ("state", "city")), str(FULL), (FULL,), CITIES, ["*"],
        ]
        for value in wrong:
            if isinstance(value, str) and value == "*":
                continue
            with self.subTest(value=value):
                self.every(0, (value, ITEM))
                self.every(0, (value, value))
                self.every(1, (FULL, value))
                self.every(1, ("*", value))
        self.every(0, (ITEM, ITEM))
        self.every(1, (FULL, FULL))
        self.every(0, (ITEM, FULL))

    def test_shapes_that_the_rules_do_not_allow(self):
        cube = Cube(Schema("item"), CITIES.with_rule("city", Reaches("state")))
        self.raises(InvalidShapes, {"index": 1}, texts_of, cube, ("*", Shape("city")))
        self.same(texts_of(cube, ("*", FULL)), ("*", "city city>state"))

    def test_the_first_wrong_argument(self):
        self.raises(InvalidShapes, {"index": 1}, is_below, CUBE, ("*", 5), (5, 5))
        self.raises(InvalidShapes, {"index": 0}, is_below, CUBE, ("*", "*"), (5, 5))
        self.raises(InvalidShapes, {"index": None}, part_at, CUBE, (), ())

    def test_what_is_given_stays(self):
        shapes, view = (FULL, ITEM), ("state", "*")
        part_at(CUBE, shapes, view)
        is_below(CUBE, shapes, ("*", ITEM))
        self.same([texts_of(CUBE, shapes), view, len(CUBE)], [("city city>state", "item"), ("state", "*"), 2])


if __name__ == "__main__":
    unittest.main()
