"""How often base cell shapes count, examples of this, and weights of whole views."""

import unittest
from fractions import Fraction
from math import gcd

from raggedtotals.cellshapes import texts_of
from raggedtotals.counting import counted, example_counted, obstacle, view_weights
from raggedtotals.cubes import Cube
from raggedtotals.datasets import Dataset
from raggedtotals.errors import InvalidStored, InvalidTimes, InvalidView, NotACube, TooMany
from raggedtotals.schemas import Schema
from raggedtotals.sums import is_determined
from tests import places, sights, spots
from tests.helpers import Case, odd_values
from tests.places import Sly
from tests.questions import WrongQuestions, more_than_sixty, sixties
from tests.test_sums import COUNTRY, CUBE, METRO, SIXTY, THREE

NOTHING = Schema.read("base a\nlink a b\nrule a not(reaches(b))")

MARKED = Schema.read(
    "base a\nlink a b\nlink a c\nlink b d\nlink c d\nmarks d x y z\nrule a any(reaches(b), reaches(c))\n"
    "rule a if(marked(d, x), not(reaches(c)))\nrule a if(marked(d, y), not(reaches(b)))\n"
    "rule a if(marked(d, z), all(reaches(b), reaches(c)))\nrule b reaches(d)\nrule c reaches(d)"
)


class CountCase(Case):
    def check_counts(self, cube, wanted, stored):
        """Check all answers for views; return whether there are view weights."""
        counts = spots.counts(cube, wanted, stored)
        numbers = [len(indexes) for indexes in counts.values()]
        self.same(counted(cube, wanted, stored), (min(numbers), max(numbers)) if numbers else None)
        for times in range(len(stored) + 2):
            self.check_example(cube, wanted, stored, times, numbers)
        rows = [[int(index in indexes) for index in range(len(stored))] for indexes in counts.values()]
        solvable = sights.solvable(rows, [1] * len(rows))
        weights, pairs = view_weights(cube, wanted, stored), obstacle(cube, wanted, stored)
        self.assertIs(weights is not None, solvable)
        self.assertIs(pairs is None, solvable)
        if solvable:
            self.check_weights(counts, stored, weights)
            self.assertIs(is_determined(cube, wanted, stored), True)
        else:
            self.check_obstacle(cube, counts, stored, pairs)
        return solvable

    def check_example(self, cube, wanted, stored, times, numbers):
        """Check the example for a number of times, or that there is none."""
        found = example_counted(cube, wanted, stored, times)
        if times not in numbers:
            self.assertIsNone(found)
            return
        self.assertIs(type(found), tuple)
        dataset, cell = found
        self.assertIs(type(dataset), Dataset)
        self.assertEqual(dataset.cube, cube)
        self.same([len(dataset), dataset.facts[0][1], dataset.is_cell(wanted, cell)], [1, 1, True])
        self.assertEqual(spots.values(dataset, wanted)[cell], 1)
        hierarchies = [hierarchy.entries for hierarchy in dataset.hierarchies]
        total = 0
        for view in stored:
            for lower, value in spots.values(dataset, view).items():
                if places.goes_into(hierarchies, lower, cell):
                    total += value
        self.assertEqual(total, times)

    def check_weights(self, counts, stored, weights):
        """Check view weights by the words of the document."""
        self.same([type(weights), len(weights)], [tuple, len(stored)])
        for pair in weights:
            self.same([type(pair), len(pair), type(pair[0]), type(pair[1])], [tuple, 2, int, int])
            self.assertTrue(pair[1] >= 1 and gcd(*pair) == 1)
        for indexes in counts.values():
            self.assertEqual(sum(Fraction(*weights[index]) for index in indexes), 1)

    def check_obstacle(self, cube, counts, stored, pairs):
        """Check an obstacle by the words of the document."""
        self.assertIs(type(pairs), tuple)
        for pair in pairs:
            self.same([type(pair), len(pair), type(pair[0]), type(pair[1])], [tuple, 2, tuple, int])
        keys = [texts_of(cube, shapes) for shapes, _ in pairs]
        self.assertEqual(len(keys), len(set(keys)))
        self.assertTrue(set(keys) <= set(counts))
        numbers = dict(zip(keys, [number for _, number in pairs]))
        self.assertTrue(all(numbers.values()))
        for index in range(len(stored)):
            self.assertEqual(sum(numbers[key] for key in numbers if index in counts[key]), 0)
        self.assertNotEqual(sum(numbers.values()), 0)


class PromiseTest(CountCase):
    def test_random_questions(self):
        seen = {}
        for _, cube, wanted, stored in sights.random_cubes(61, 400):
            key = len(cube), self.check_counts(cube, wanted, stored)
            seen[key] = seen.get(key, 0) + 1
        for size in (1, 2, 3):
            for found in (True, False):
                self.assertTrue(seen.get((size, found), 0) > 10, seen)

    def test_all_views_of_a_small_cube(self):
        views = spots.views_of(CUBE)
        found = set()
        for wanted in views:
            for chosen in spots.subsets(len(views)):
                if len(chosen) <= 3:
                    stored = tuple(views[place] for place in chosen)
                    weights = self.check_counts(CUBE, wanted, stored)
                    found.add((weights, is_determined(CUBE, wanted, stored)))
        self.assertTrue({(True, True), (False, False)} <= found)

    def test_a_formula_where_there_are_no_weights(self):
        # The mark of the wanted cell tells which stored views see it, and weights of whole views cannot tell.
        wanted, stored = ("d",), (("b",), ("c",))
        self.assertIs(self.check_counts(Cube(MARKED), wanted, stored), False)
        self.assertIs(is_determined(Cube(MARKED), wanted, stored), True)
        self.same([counted(Cube(MARKED), wanted, stored), len(obstacle(Cube(MARKED), wanted, stored))], [(1, 2), 3])
        self.assertIs(self.check_counts(Cube(MARKED), ("*",), stored), False)
        self.assertIs(is_determined(Cube(MARKED), ("*",), stored), True)

    def test_equal_stored_views_count_each_for_itself(self):
        stored = (COUNTRY, COUNTRY, ("zone",), COUNTRY)
        self.same(counted(CUBE, COUNTRY, stored), (3, 4))
        self.check_counts(CUBE, COUNTRY, stored)
        self.check_counts(CUBE, ("city",), (("city",),) * 10)
        self.same(counted(CUBE, ("city",), (("city",),) * 10), (10, 10))

    def test_no_stored_views(self):
        self.same(counted(CUBE, COUNTRY, ()), (0, 0))
        self.same(view_weights(CUBE, COUNTRY, ()), None)
        self.check_counts(CUBE, COUNTRY, ())
        dataset, cell = example_counted(CUBE, COUNTRY, (), 0)
        self.same([dataset.total(COUNTRY, cell), example_counted(CUBE, COUNTRY, (), 1)], [1, None])

    def test_a_wanted_view_that_nothing_passes(self):
        for cube, wanted in ((Cube(NOTHING), ("b",)), (Cube(METRO, NOTHING), ("*", "b"))):
            for stored in ((), (wanted,), (wanted, cube.base, cube.base)):
                self.assertIsNone(counted(cube, wanted, stored))
                self.assertIsNone(obstacle(cube, wanted, stored))
                self.same(len(view_weights(cube, wanted, stored)), len(stored))
                for times in (0, 1, 2, 3):
                    self.assertIsNone(example_counted(cube, wanted, stored, times))
                self.check_counts(cube, wanted, stored)

    def test_great_numbers_of_times(self):
        for times in (11, 60, 10 ** 59):
            self.assertIsNone(example_counted(CUBE, COUNTRY, (COUNTRY,) * 10, times))
        self.assertIsNotNone(example_counted(CUBE, COUNTRY, (COUNTRY,) * 10, 10))

    def test_sixty_base_cell_shapes(self):
        for stored in ((("b",), ("c",), ("*",)), (("b",), ("c",), ("a",), ("a",))):
            for level in ("a", "b", "*"):
                self.check_counts(Cube(SIXTY), (level,), stored)


class UseTest(CountCase):
    def test_by_position_and_by_name(self):
        self.same(counted(stored=THREE, wanted=COUNTRY, cube=CUBE), (1, 3))
        self.same(view_weights(stored=THREE, wanted=COUNTRY, cube=CUBE), ((1, 1), (1, 1), (-1, 1)))
        self.same(obstacle(stored=THREE, wanted=COUNTRY, cube=CUBE), None)
        self.same(len(obstacle(CUBE, COUNTRY, stored=THREE[:2])), 3)
        dataset, cell = example_counted(times=3, stored=THREE, wanted=COUNTRY, cube=CUBE)
        self.same(dataset.total(COUNTRY, cell), 1)
        self.assertIsNone(example_counted(CUBE, COUNTRY, THREE, times=2))

    def test_equal_calls(self):
        for call in (counted, view_weights, obstacle):
            for stored in (THREE, THREE[:2], ()):
                self.assertEqual(call(CUBE, COUNTRY, stored), call(CUBE, COUNTRY, stored))
        self.assertEqual(example_counted(CUBE, COUNTRY, THREE, 1), example_counted(CUBE, COUNTRY, THREE, 1))

    def test_what_is_given_stays(self):
        stored, wanted = (("state",), ("zone",)), ("country",)
        for call in (counted, view_weights, obstacle):
            call(CUBE, wanted, stored)
        self.same([stored, wanted], [(("state",), ("zone",)), ("country",)])


class WrongQuestionTest(WrongQuestions, Case):
    def calls(self):
        return [
            counted, view_weights, obstacle,
            lambda *args, **named: example_counted(*args, times=0, **named),
            lambda *args, **named: example_counted(*args, times=3, **named),
        ]

    def test_values_that_are_no_numbers_of_times(self):
        wrong = odd_values() + [Sly(), -2, -10 ** 40, (1,), [1], "1", b"1", {1}, {0: 1}, int]
        wrong = [value for value in wrong if isinstance(value, bool) or not (isinstance(value, int) and value >= 0)]
        self.assertTrue(any(value is True for value in wrong) and any(value is False for value in wrong))
        for value in wrong:
            with self.subTest(value=value):
                self.raises(InvalidTimes, {"value": value}, example_counted, CUBE, COUNTRY, THREE, value)
                self.raises(InvalidTimes, {"value": value}, example_counted, CUBE, ("city",), (), times=value)
                self.raises(InvalidTimes, {"value": value}, example_counted, Cube(NOTHING), ("b",), (), value)
                self.raises(InvalidTimes, {"value": value}, example_counted, times=value, stored=(),
                            wanted=("*", "*"), cube=Cube(SIXTY, SIXTY))

    def test_the_order_of_errors(self):
        cube = Cube(SIXTY, SIXTY)
        self.raises(TooMany, {"limit": 60}, example_counted, cube, ("*", "*"), (), 0)
        self.raises(InvalidTimes, {"value": True}, example_counted, cube, ("*", "*"), (), True)
        self.raises(InvalidStored, {"index": 1}, example_counted, cube, ("*", "*"), (("*", "*"), 5), True)
        self.raises(InvalidView, {"value": 5}, example_counted, cube, 5, 5, True)
        self.raises(NotACube, {"value": 5}, example_counted, 5, 5, 5, True)

    def test_the_limit(self):
        for cube in sixties():
            self.assertIsNotNone(example_counted(cube, ("*",) * len(cube), (cube.base,), 1))
        for cube in more_than_sixty():
            self.raises(TooMany, {"limit": 60}, example_counted, cube, ("*",) * len(cube), (cube.base,), 1)


if __name__ == "__main__":
    unittest.main()
