"""Blind spots: that there is one exactly where nothing is determined, and what views see of it."""

import unittest

from raggedtotals.blindspots import BlindSpot, find_blind_spot, sees
from raggedtotals.conditions import Any, Reaches
from raggedtotals.cubes import Cube
from raggedtotals.datasets import Dataset
from raggedtotals.errors import InvalidMeasure, InvalidStored, InvalidView, NotACube, TooMany
from raggedtotals.integers import is_integer
from raggedtotals.schemas import Schema
from raggedtotals.sums import find_formula, is_determined
from tests import sights, spots
from tests.helpers import Case, odd_values
from tests.places import Sly
from tests.questions import WrongQuestions
from tests.test_sums import COUNTRY, CUBE, METRO, SIXTY, THREE, wide


class SpotCase(Case):
    def check_spot(self, cube, wanted, stored, measure, spot):
        """Check all that the document says of a blind spot."""
        self.assertIs(type(spot), BlindSpot)
        for dataset in (spot.first, spot.second):
            self.assertIs(type(dataset), Dataset)
            self.assertEqual(dataset.cube, cube)
            self.assertTrue(all(is_integer(amount) and amount >= 0 for _, amount in dataset.facts))
        self.assertEqual(spot.first.hierarchies, spot.second.hierarchies)
        for view in stored:
            self.assertTrue(spots.alike(spot.first, spot.second, view, measure), (view, measure))
        self.assertIs(spot.first.is_cell(wanted, spot.cell), True)
        first, second = [spots.values(dataset, wanted, measure) for dataset in (spot.first, spot.second)]
        self.assertNotEqual(first[spot.cell], second[spot.cell])

    def check_question(self, cube, wanted, stored):
        """Check the blind spots of all measures; return the measures that are determined."""
        found = []
        for measure in spots.MEASURES:
            spot = find_blind_spot(cube, wanted, stored, measure=measure)
            wished = spots.determined(cube, wanted, stored, measure)
            self.assertIs(spot is None, wished, (str(cube.schemas[0]), wanted, stored, measure))
            self.assertIs(is_determined(cube, wanted, stored, measure=measure), wished)
            if wished:
                found.append(measure)
            else:
                self.check_spot(cube, wanted, stored, measure, spot)
        self.assertIs(find_formula(cube, wanted, stored) is None, "total" not in found)
        return found


class FindTest(SpotCase):
    def test_random_questions(self):
        seen = {}
        for _, cube, wanted, stored in sights.random_cubes(51, 420):
            found = self.check_question(cube, wanted, stored)
            for key in ((len(cube), len(found)), (len(cube), "signs", min(1, wanted.count("*")))):
                seen[key] = seen.get(key, 0) + 1
        for size in (1, 2, 3):
            for key in ((size, 0), (size, 3), (size, "signs", 0), (size, "signs", 1)):
                self.assertTrue(seen.get(key, 0) > 5, (key, seen))

    def test_where_greatest_are_determined_and_totals_are_not(self):
        seen = {}
        for many in (2, 3, 4):
            uppers = [f"u{at}" for at in range(many)]
            links = [("a", upper) for upper in uppers] + [("u0", "t")]
            rules = (("a", Any(*[Reaches(upper) for upper in uppers])),)
            cube = Cube(Schema("a", *links, rules=rules))
            views = [(level,) for level in (*uppers, "t")]
            for wanted in ("*", "u0", "t"):
                for chosen in spots.subsets(len(views)):
                    found = self.check_question(cube, (wanted,), tuple(views[place] for place in chosen))
                    seen[tuple(found)] = seen.get(tuple(found), 0) + 1
        self.assertEqual(set(seen), {(), ("greatest", "least"), ("total", "greatest", "least")})

    def test_all_views_of_a_small_cube(self):
        views = spots.views_of(CUBE)
        for wanted in views:
            for chosen in spots.subsets(len(views)):
                if len(chosen) <= 3:
                    self.check_question(CUBE, wanted, tuple(views[place] for place in chosen))

    def test_two_and_three_dimensions_with_everything_at_each_place(self):
        cubes = [Cube(METRO, Schema("item", ("item", "kind"))),
                 Cube(Schema("a", ("a", "b")), Schema("x"), Schema("m", ("m", "n"), marks=(("n", "o", "p"),)))]
        for cube in cubes:
            views = spots.views_of(cube)
            for wanted in views:
                for view in views:
                    self.check_question(cube, wanted, (view,))

    def test_equal_stored_views(self):
        for stored in ((COUNTRY, COUNTRY), (("state",), ("state",)), (("city",),) * 10, (("zone",),) * 10):
            for wanted in (COUNTRY, ("*",), ("zone",)):
                self.check_question(CUBE, wanted, stored)

    def test_no_stored_views(self):
        for level in (*METRO.levels, "*"):
            self.assertEqual(self.check_question(CUBE, (level,), ()), [])

    def test_a_wanted_view_that_nothing_passes(self):
        schema = Schema.read("base a\nlink a b\nrule a not(reaches(b))")
        for measure in spots.MEASURES:
            self.assertIsNone(find_blind_spot(Cube(schema), ("b",), (), measure=measure))
            self.assertIsNone(find_blind_spot(Cube(schema, METRO), ("b", "*"), (), measure=measure))
            self.assertIsNotNone(find_blind_spot(Cube(schema), ("a",), (("b",),), measure=measure))

    def test_sixty_base_cell_shapes(self):
        views = spots.views_of(Cube(SIXTY))
        for stored in (tuple(views), (("b",), ("c",), ("*",)), (("b",), ("c",))):
            for level in ("a", "b", "*"):
                self.check_question(Cube(SIXTY), (level,), stored)
        cube = Cube(wide(3), wide(4), wide(5))
        for stored in ((("*", "a", "a"), ("a", "*", "a"), ("a", "a", "*")), (cube.base,), (("u0", "u0", "u0"),)):
            self.check_question(cube, ("*", "*", "*"), stored)
            self.check_question(cube, ("a", "*", "u0"), stored)

    def test_great_obstacles(self):
        # Members with many shapes above them and many copies.
        schema = Schema(
            "a", ("a", "b"), ("b", "c"), ("a", "d"), ("d", "e"), ("c", "f"), ("e", "f"), marks=(("f", "x", "y", "z"),))
        cube = Cube(schema)
        for wanted in ("a", "f", "*", "c"):
            for stored in ((("b",), ("d",)), (("c",), ("e",), ("f",)), (("b",), ("c",), ("d",), ("e",), ("f",))):
                self.check_question(cube, (wanted,), stored)


class UseTest(SpotCase):
    SPOT = find_blind_spot(CUBE, COUNTRY, (("state",), ("zone",)))

    def test_by_position_and_by_name(self):
        self.check_spot(CUBE, COUNTRY, THREE[:2], "total", find_blind_spot(CUBE, COUNTRY, THREE[:2]))
        spot = find_blind_spot(measure="total", stored=THREE[:2], wanted=COUNTRY, cube=CUBE)
        self.check_spot(CUBE, COUNTRY, THREE[:2], "total", spot)
        self.assertIsNone(find_blind_spot(CUBE, COUNTRY, stored=THREE))
        self.assertIs(sees(view=("metro",), blind_spot=spot), True)
        self.assertIs(sees(spot, view=("zone",)), False)

    def test_the_measure_is_given_by_name(self):
        with self.assertRaises(TypeError):
            find_blind_spot(CUBE, COUNTRY, THREE, "total")

    def test_totals_are_the_measure_by_default(self):
        for stored in (THREE[:2], THREE, ()):
            for wanted in (COUNTRY, ("zone",), ("*",)):
                first = find_blind_spot(CUBE, wanted, stored)
                second = find_blind_spot(CUBE, wanted, stored, measure="total")
                self.assertIs(first is None, second is None)

    def test_equal_calls(self):
        for measure in spots.MEASURES:
            for stored in ((), (("zone",),), (("zone",), ("zone",))):
                first, second = [find_blind_spot(CUBE, COUNTRY, stored, measure=measure) for _ in range(2)]
                self.assertEqual((first.first, first.second, first.cell), (second.first, second.second, second.cell))

    def test_what_is_given_stays(self):
        stored, wanted = (("state",), ("zone",)), ("country",)
        cube = Cube(METRO)
        find_blind_spot(cube, wanted, stored)
        self.same([stored, wanted, cube == CUBE], [(("state",), ("zone",)), ("country",), True])

    def test_equal_to_itself_alone(self):
        other = find_blind_spot(CUBE, COUNTRY, (("state",), ("zone",)))
        self.same([self.SPOT == other, self.SPOT != other, self.SPOT == self.SPOT, bool(other)],
                  [False, True, True, True])
        for value in odd_values() + [self.SPOT.first, CUBE]:
            self.assertIs(self.SPOT == value, False)

    def test_properties_cannot_be_assigned(self):
        for name in ("first", "second", "cell"):
            with self.assertRaises(AttributeError):
                setattr(self.SPOT, name, ())


class SeesTest(SpotCase):
    def test_all_views(self):
        seen = {True: 0, False: 0}
        for _, cube, wanted, stored in sights.random_cubes(53, 160):
            for measure in spots.MEASURES:
                spot = find_blind_spot(cube, wanted, stored, measure=measure)
                if spot is not None:
                    for view in spots.views_of(cube):
                        wished = not spots.alike(spot.first, spot.second, view)
                        self.assertIs(sees(spot, view), wished)
                        seen[wished] += 1
                    if measure == "total":
                        self.assertIs(sees(spot, wanted), True)
                        self.assertFalse(any(sees(spot, view) for view in stored))
        self.assertTrue(min(seen.values()) > 300, seen)

    def test_values_that_are_no_views(self):
        spot = find_blind_spot(CUBE, COUNTRY, ())
        other = find_blind_spot(Cube(METRO, METRO), ("*", "*"), ())
        for value in odd_values() + [Sly(), ("citi",), ["zone"], "zone", (Sly(),), ("jp",), (None,), ("*", "*", "*")]:
            with self.subTest(value=value):
                self.raises(InvalidView, {"value": value}, sees, spot, value)
                self.raises(InvalidView, {"value": value}, sees, view=value, blind_spot=other)
        self.raises(InvalidView, {"value": ("*", "*")}, sees, spot, ("*", "*"))
        self.raises(InvalidView, {"value": ("*",)}, sees, other, ("*",))


class WrongQuestionTest(WrongQuestions, Case):
    def calls(self):
        return [
            find_blind_spot,
            lambda *args, **named: find_blind_spot(*args, measure="greatest", **named),
            lambda *args, **named: find_blind_spot(*args, measure="least", **named),
        ]

    def test_values_that_are_no_measures(self):
        wrong = [Sly(), "totals", "Total", "most", ("total",), ["total"], "count", " total", b"total", "greatest "]
        for value in odd_values() + wrong:
            with self.subTest(value=value):
                self.raises(InvalidMeasure, {"value": value}, find_blind_spot, CUBE, COUNTRY, THREE, measure=value)
                self.raises(InvalidMeasure, {"value": value}, find_blind_spot, measure=value, stored=(),
                            wanted=("*", "*"), cube=Cube(SIXTY, SIXTY))

    def test_the_order_of_errors(self):
        cube = Cube(SIXTY, SIXTY)
        self.raises(TooMany, {"limit": 60}, find_blind_spot, cube, ("*", "*"), (), measure="least")
        self.raises(InvalidMeasure, {"value": "x"}, find_blind_spot, cube, ("*", "*"), (), measure="x")
        self.raises(InvalidStored, {"index": 0}, find_blind_spot, cube, ("*", "*"), (5,), measure="x")
        self.raises(InvalidView, {"value": 5}, find_blind_spot, cube, 5, (5,), measure="x")
        self.raises(NotACube, {"value": 5}, find_blind_spot, 5, 5, (5,), measure="x")


if __name__ == "__main__":
    unittest.main()
