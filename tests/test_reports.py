"""Reports: the five words, and what is wrong."""

import unittest

from raggedtotals.cubes import Cube
from raggedtotals.errors import InvalidStored, InvalidView, NotACube, TooMany
from raggedtotals.reports import report
from raggedtotals.schemas import Schema
from tests import sights, spots
from tests.helpers import Case, odd_values
from tests.places import Sly
from tests.questions import WrongQuestions, more_than_sixty, sixties
from tests.test_counting import MARKED, NOTHING
from tests.test_sums import COUNTRY, CUBE, METRO, SIXTY, THREE, wide

WORDS = ("plain", "weights", "shapes", "greatest", "open")


def word(cube, view, stored):
    """The word for a view, by the second reading."""
    counts = spots.counts(cube, view, stored)
    if all(len(indexes) == 1 for indexes in counts.values()):
        return "plain"
    rows = [[int(index in indexes) for index in range(len(stored))] for indexes in counts.values()]
    if sights.solvable(rows, [1] * len(rows)):
        return "weights"
    if sights.has_formula(cube, view, stored):
        return "shapes"
    return "greatest" if all(counts.values()) else "open"


class ReportTest(Case):
    def check_report(self, cube, stored, views):
        """Check a report; return its words."""
        words = [word(cube, view, stored) for view in views]
        lines = [",".join(view) + ": " + found for view, found in zip(views, words)]
        self.same(report(cube, stored, *views), "\n".join(lines))
        return words

    def test_random_cubes(self):
        seen = {}
        for chance, cube, wanted, stored in sights.random_cubes(131, 300):
            views = [view for view in spots.views_of(cube) if len(spots.counts(cube, view, ())) <= 60]
            chosen = [wanted, *[chance.choice(views) for _ in range(chance.randint(0, 4))]]
            for found in self.check_report(cube, stored, chosen):
                seen[found] = seen.get(found, 0) + 1
        self.assertTrue(all(seen.get(found, 0) > 3 for found in ("plain", "weights", "open")), seen)

    def test_all_views_of_small_cubes(self):
        seen = set()
        for cube in (CUBE, Cube(MARKED)):
            views = spots.views_of(cube)
            for chosen in spots.subsets(len(views)):
                if len(chosen) <= 3:
                    seen.update(self.check_report(cube, tuple(views[place] for place in chosen), views))
        self.assertEqual(seen, set(WORDS))

    def test_each_word(self):
        stored = (("b",), ("c",))
        self.same(report(Cube(MARKED), stored, ("d",), ("b",), ("a",)), "d: shapes\nb: plain\na: open")
        self.same(report(CUBE, THREE[:2], ("*",), ("zone",)), "*: greatest\nzone: plain")
        self.same(report(CUBE, THREE, ("*",)), "*: weights")
        cube = Cube(METRO, Schema("item", ("item", "kind")))
        self.same(report(cube, (("city", "*"),), ("*", "*"), ("city", "kind"), ("*", "*")),
                  "*,*: plain\ncity,kind: open\n*,*: plain")

    def test_nothing_passes(self):
        for stored in ((), (("b",),), (("a",), ("a",))):
            self.same(report(Cube(NOTHING), stored, ("b",)), "b: plain")

    def test_no_views(self):
        self.same([report(CUBE, THREE), report(CUBE, ()), report(Cube(SIXTY, SIXTY), ())], ["", "", ""])

    def test_equal_stored_views_count_each_for_itself(self):
        self.same(report(CUBE, (("city",), ("city",)), ("city",), ("*",)), "city: weights\n*: weights")

    def test_by_position_and_by_name(self):
        self.same(report(stored=THREE, cube=CUBE), "")
        self.same(report(CUBE, THREE, ("metro",)), report(CUBE, THREE, ("metro",)))

    def test_views_that_are_wrong(self):
        good = [("*",), COUNTRY, ("zone",)]
        for value in odd_values() + [Sly(), "country", ["country"], ("country", "*"), (), ("jp",), (Sly(),)]:
            with self.subTest(value=value):
                for place in range(4):
                    views = [*good[:place], value, *good[place:]]
                    self.raises(InvalidView, {"value": value}, report, CUBE, THREE, *views)
                    self.raises(InvalidView, {"value": value}, report, CUBE, THREE, *views, ("nix",), 5)

    def test_the_limit_for_one_of_the_views(self):
        for cube in sixties():
            everything = ("*",) * len(cube)
            self.same(report(cube, (cube.base,), everything), ",".join(everything) + ": plain")
        for cube in more_than_sixty():
            self.raises(TooMany, {"limit": 60}, report, cube, (cube.base,), ("*",) * len(cube))
        cube = Cube(wide(8), wide(12))
        few = ("u0", "u0")
        self.same(report(cube, (cube.base,), few, few), "u0,u0: plain\nu0,u0: plain")
        for views in ((few, ("*", "*")), (("*", "*"), few), (few, few, ("u0", "*"), few)):
            self.raises(TooMany, {"limit": 60}, report, cube, (cube.base,), *views)

    def test_the_order_of_errors(self):
        cube = Cube(SIXTY, SIXTY)
        self.raises(InvalidView, {"value": 5}, report, cube, (), ("*", "*"), 5)
        self.raises(InvalidStored, {"index": 0}, report, cube, (5,), ("*", "*"), 5)
        self.raises(InvalidStored, {"index": None}, report, cube, 5)
        self.raises(NotACube, {"value": 5}, report, 5, 5, 5)
        self.raises(NotACube, {"value": 5}, report, stored=5, cube=5)


class WrongQuestionTest(WrongQuestions, Case):
    def calls(self):
        def asked(cube, wanted, stored):
            """A report of one view, whose argument for the view has no name and comes last."""
            return report(cube, stored, wanted)

        return [asked]

    def test_values_that_are_no_views(self):
        """A wrong view is told behind wrong stored views, which come first here."""
        self.raises(InvalidStored, {"index": None}, report, CUBE, 5, 5)

    def test_more_than_sixty_base_cell_shapes(self):
        for cube in more_than_sixty():
            self.raises(InvalidStored, {"index": 1}, report, cube, (cube.base, 5), ("*",) * len(cube), 5)


if __name__ == "__main__":
    unittest.main()
