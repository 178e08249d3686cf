"""The errors that all functions share which take a cube, a wanted view and stored views."""

from raggedtotals.conditions import Reaches
from raggedtotals.cubes import Cube
from raggedtotals.errors import InvalidStored, InvalidView, NotACube, TooMany
from tests.helpers import odd_values
from tests.places import Sly
from tests.test_sums import COUNTRY, CUBE, METRO, SALES, SIXTY, THREE, wide


def sixties():
    """Cubes for which 60 base cell shapes pass the view of everything."""
    return [Cube(*[wide(size) for size in sizes]) for sizes in
            ((60,), (60, 1), (10, 6), (5, 12), (3, 4, 5), (1, 1, 60), (2, 30), (15, 4))]


def more_than_sixty():
    """Cubes for which more base cell shapes pass it: 62, the next number (61 is no product), 64 and more."""
    fewer = wide(32).with_rule("a", Reaches("u0") | Reaches("u1") | Reaches("u2"))
    sizes = ((8, 8), (4, 16), (2, 32), (32, 2), (4, 4, 4), (60, 2), (3, 5, 5))
    return [Cube(fewer, wide(2)), Cube(SIXTY, SIXTY), Cube(SIXTY, SIXTY, SIXTY)] + [
        Cube(*[wide(size) for size in row]) for row in sizes]


class WrongQuestions:
    """To be mixed into a test case with `calls()`: functions that take cube, wanted and stored by position or name.

    Each of them is given all else that it takes, so that only the question is wrong.
    """

    def calls(self):
        raise NotImplementedError

    def every(self, error, fields, *args, **named):
        """Check the error of all functions."""
        for call in self.calls():
            self.raises(error, fields, call, *args, **named)

    def test_values_that_are_no_cubes(self):
        for value in odd_values() + [Sly(), METRO, (METRO,), SALES, Cube, "country"]:
            with self.subTest(value=value):
                self.every(NotACube, {"value": value}, value, COUNTRY, THREE)
                self.every(NotACube, {"value": value}, value, 5, 5)
                self.every(NotACube, {"value": value}, stored=5, wanted=5, cube=value)

    def test_values_that_are_no_views(self):
        for value in odd_values() + [Sly(), ("citi",), ["country"], ("country", "*"), "country", (Sly(),), ("jp",)]:
            with self.subTest(value=value):
                self.every(InvalidView, {"value": value}, CUBE, value, THREE)
                self.every(InvalidView, {"value": value}, CUBE, value, 5)
                self.every(InvalidView, {"value": value}, stored=5, wanted=value, cube=CUBE)

    def test_stored_views_that_are_no_tuple_or_too_many(self):
        wrong = [value for value in odd_values() if not isinstance(value, tuple)] + [
            Sly(), list(THREE), (COUNTRY,) * 11, (5,) * 11, {COUNTRY: 1}, "country", CUBE]
        for value in wrong:
            with self.subTest(value=value):
                self.every(InvalidStored, {"index": None}, CUBE, COUNTRY, value)
                self.every(InvalidStored, {"index": None}, stored=value, wanted=COUNTRY, cube=CUBE)

    def test_elements_that_are_no_views(self):
        wrong = odd_values() + [Sly(), "country", ["country"], ("country", "*"), (), ("jp",), (Sly(),), (COUNTRY,)]
        for value in wrong:
            with self.subTest(value=value):
                self.every(InvalidStored, {"index": 0}, CUBE, COUNTRY, (value,))
                self.every(InvalidStored, {"index": 0}, CUBE, COUNTRY, (value, value))
                self.every(InvalidStored, {"index": 3}, CUBE, COUNTRY, (*THREE, value, 5))
                self.every(InvalidStored, {"index": 9}, CUBE, COUNTRY, (COUNTRY,) * 9 + (value,))

    def test_exactly_sixty_base_cell_shapes(self):
        for cube in sixties():
            for call in self.calls():
                call(cube, ("*",) * len(cube), (cube.base,))
                call(cube, cube.base, ())

    def test_more_than_sixty_base_cell_shapes(self):
        for cube in more_than_sixty():
            everything = ("*",) * len(cube)
            self.every(TooMany, {"limit": 60}, cube, everything, (cube.base,))
            self.every(TooMany, {"limit": 60}, cube, everything, ())
            self.every(TooMany, {"limit": 60}, stored=(cube.base,) * 10, wanted=cube.base, cube=cube)
            self.every(InvalidStored, {"index": 1}, cube, everything, (cube.base, 5))
            self.every(InvalidView, {"value": 5}, cube, 5, (cube.base,))

    def test_only_what_passes_the_wanted_view_counts_for_the_limit(self):
        cube = Cube(wide(8), wide(12))
        self.every(TooMany, {"limit": 60}, cube, ("*", "*"), (cube.base,))
        self.every(TooMany, {"limit": 60}, cube, ("u0", "*"), (cube.base,))
        for call in self.calls():
            call(cube, ("u0", "u0"), (cube.base, ("*", "*")))

    def test_lists_and_other_numbers_of_arguments(self):
        for call in self.calls():
            with self.assertRaises(TypeError):
                call(CUBE, COUNTRY)
            with self.assertRaises(TypeError):
                call(CUBE)
