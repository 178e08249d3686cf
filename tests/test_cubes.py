"""Cubes: their dimensions and their views."""

import itertools
import unittest

from raggedtotals.cubes import Cube
from raggedtotals.errors import InvalidSchemas
from raggedtotals.schemas import Schema
from tests.helpers import Case, odd_values
from tests.places import Sly

PLACES = Schema("shop", ("shop", "city"), ("city", "state"))
GOODS = Schema("item", ("item", "kind"))
DAYS = Schema("day")


class CubeTest(Case):
    def test_one_to_three_dimensions(self):
        for schemas in ((PLACES,), (PLACES, GOODS), (DAYS, GOODS, PLACES), (GOODS, GOODS), (DAYS, DAYS, DAYS)):
            cube = Cube(*schemas)
            self.assertIs(type(cube.schemas), tuple)
            self.assertEqual(cube.schemas, schemas)
            self.same([cube.base, len(cube), bool(cube)],
                      [tuple(schema.base for schema in schemas), len(schemas), True])

    def test_other_numbers_of_dimensions(self):
        self.raises(InvalidSchemas, {"index": None}, Cube)
        self.raises(InvalidSchemas, {"index": None}, Cube, DAYS, DAYS, DAYS, DAYS)
        self.raises(InvalidSchemas, {"index": None}, Cube, 5, 5, 5, 5)
        self.raises(InvalidSchemas, {"index": None}, Cube, DAYS, GOODS, PLACES, None, PLACES)

    def test_values_that_are_no_schemas(self):
        for value in odd_values() + [str(DAYS), Cube(DAYS), (DAYS,), Schema, Sly()]:
            if isinstance(value, Schema):
                continue
            with self.subTest(value=value):
                self.raises(InvalidSchemas, {"index": 0}, Cube, value)
                self.raises(InvalidSchemas, {"index": 0}, Cube, value, 5)
                self.raises(InvalidSchemas, {"index": 1}, Cube, DAYS, value)
                self.raises(InvalidSchemas, {"index": 1}, Cube, DAYS, value, value)
                self.raises(InvalidSchemas, {"index": 2}, Cube, DAYS, GOODS, value)

    def test_views(self):
        for schemas in ((PLACES,), (GOODS, DAYS), (PLACES, PLACES, DAYS)):
            cube = Cube(*schemas)
            names = ("shop", "city", "state", "item", "kind", "day", "*", "stat", "states", "base", "")
            for value in itertools.product(names, repeat=len(schemas)):
                wanted = all(place == "*" or place in schema.levels for place, schema in zip(value, schemas))
                self.assertIs(cube.is_view(value), wanted)
                self.assertIs(cube.is_view(value=value), wanted)
                self.assertIs(cube.is_view(list(value)), False)
                self.assertIs(cube.is_view(value + ("*",)), False)
                self.assertIs(cube.is_view(value[1:]), False)
            self.assertIs(cube.is_view(cube.base), True)

    def test_values_that_are_no_views(self):
        cube, other = Cube(PLACES), Cube(DAYS, GOODS)
        for value in odd_values() + ["shop", "*", ["*"], {"*"}, (), Sly(), PLACES, cube, b"*"]:
            with self.subTest(value=value):
                self.assertIs(cube.is_view(value), False)
                self.assertIs(other.is_view(value), False)
                self.assertIs(cube.is_view((value,)), isinstance(value, str) and value in ("*", "shop"))
                self.assertIs(other.is_view(("*", value)), isinstance(value, str) and value == "*")
                self.assertIs(other.is_view((value, "item")), isinstance(value, str) and value == "*")

    def test_equality(self):
        again = Schema.read(str(PLACES))
        cubes = [Cube(PLACES), Cube(DAYS), Cube(PLACES, DAYS), Cube(DAYS, PLACES), Cube(DAYS, DAYS),
                 Cube(DAYS, DAYS, DAYS)]
        for (at, first), (place, second) in itertools.product(enumerate(cubes), enumerate(cubes)):
            self.assertIs(first == second, at == place)
            self.assertIs(first != second, at != place)
        self.assertIs(Cube(PLACES) == Cube(again), True)
        self.assertIs(Cube(PLACES, DAYS) != Cube(again, DAYS), False)

    def test_never_equal_to_another_class(self):
        cube = Cube(DAYS)
        for value in odd_values() + [DAYS, (DAYS,), cube.base, cube.schemas]:
            self.assertIs(cube == value, False)
            self.assertIs(cube != value, True)

    def test_properties_cannot_be_assigned(self):
        cube = Cube(DAYS)
        for name in ("schemas", "base"):
            with self.assertRaises(AttributeError):
                setattr(cube, name, ())
        self.assertEqual(cube, Cube(DAYS))


if __name__ == "__main__":
    unittest.main()
