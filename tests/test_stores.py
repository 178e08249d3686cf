"""Plans: their prices against all sets of candidates, and the evidence that nothing is cheaper."""

import unittest

from raggedtotals.blindspots import BlindSpot, sees
from raggedtotals.cubes import Cube
from raggedtotals.errors import InvalidPrices, InvalidStored, InvalidView, InvalidWanted, NotACube, TooMany
from raggedtotals.schemas import Schema
from raggedtotals.stores import Plan, cheapest
from tests import sights, spots
from tests.helpers import Case, odd_values
from tests.places import Sly
from tests.questions import more_than_sixty, sixties
from tests.test_sums import COUNTRY, CUBE, METRO, SALES, SIXTY, THREE, wide

CITY = (("state",), ("zone",), ("metro",), ("city",))
NOTHING = Schema.read("base a\nlink a b\nrule a not(reaches(b))")


def views_at(views, chosen):
    """The views with these indexes."""
    return tuple(views[index] for index in chosen)


class StoreCase(Case):
    def check_plan(self, cube, wanteds, candidates, prices):
        """Check a plan against all sets of candidates; return its price, or None if there is none."""
        plan = cheapest(cube, wanteds, candidates, prices)
        sums = {chosen: sum(prices[index] for index in chosen) for chosen in spots.subsets(len(candidates))}
        good = [chosen for chosen in sums
                if all(sights.has_formula(cube, wanted, views_at(candidates, chosen)) for wanted in wanteds)]
        if not good:
            self.assertIsNone(plan)
            return None
        self.assertIs(type(plan), Plan)
        self.same(plan.price, min(sums[chosen] for chosen in good))
        self.assertIn(plan.chosen, good)
        self.same(plan.price, sums[plan.chosen])
        self.assertIs(type(plan.evidence), tuple)
        unseen = [self.check_evidence(cube, wanteds, candidates, pair) for pair in plan.evidence]
        for chosen, price in sums.items():
            if price < plan.price:
                self.assertTrue(any(set(chosen) <= found for found in unseen), chosen)
        return plan.price

    def check_evidence(self, cube, wanteds, candidates, pair):
        """Check one pair of the evidence; return the set of the indexes of the candidates that do not see it."""
        self.same([type(pair), len(pair), type(pair[0])], [tuple, 2, int])
        index, spot = pair
        self.assertTrue(0 <= index < len(wanteds))
        self.assertIs(type(spot), BlindSpot)
        self.assertEqual(spot.first.hierarchies, spot.second.hierarchies)
        self.assertEqual(spot.first.cube, cube)
        self.assertTrue(all(amount >= 0 for dataset in (spot.first, spot.second) for _, amount in dataset.facts))
        values = [spots.values(dataset, wanteds[index]) for dataset in (spot.first, spot.second)]
        self.assertNotEqual(values[0][spot.cell], values[1][spot.cell])
        unseen = {place for place, view in enumerate(candidates) if spots.alike(spot.first, spot.second, view)}
        self.assertEqual(unseen, {place for place, view in enumerate(candidates) if not sees(spot, view)})
        return unseen


class PriceTest(StoreCase):
    def test_random_plans(self):
        seen = {}
        for chance, cube, wanted, _ in sights.random_cubes(71, 150, most=20):
            views = spots.views_of(cube)
            candidates = tuple(chance.choice(views) for _ in range(chance.randint(0, 6)))
            wanteds = (wanted, *[chance.choice(views) for _ in range(chance.randint(0, 3))])
            if any(len(spots.counts(cube, view, ())) > 60 for view in wanteds):
                continue
            prices = tuple(chance.choice((1, 1, 2, 3, 7)) for _ in candidates)
            price = self.check_plan(cube, wanteds, candidates, prices)
            key = "none" if price is None else min(price, 2)
            seen[key] = seen.get(key, 0) + 1
        self.assertTrue(min(seen[key] for key in ("none", 1, 2)) > 8, seen)

    def test_prices_that_make_several_views_cheaper_than_one(self):
        for price in range(1, 9):
            self.check_plan(CUBE, (("*",),), CITY, (2, 2, 2, price))
            self.check_plan(CUBE, (("*",), ("metro",)), CITY, (2, 2, 2, price))
            self.check_plan(CUBE, (("*",), COUNTRY, ("zone",), ("zone",)), CITY, (1, 3, 2, price))
            self.check_plan(CUBE, (("country",),), (*CITY, ("*",), ("country",)), (2, 3, 2, price, 1, price))

    def test_equal_prices(self):
        for candidates in (CITY, (("city",),) * 5, (*CITY, *CITY), (("country",), ("*",), ("city",))):
            for wanteds in ((("*",),), (COUNTRY, ("city",)), (("zone",), ("metro",))):
                self.check_plan(CUBE, wanteds, candidates, (3,) * len(candidates))

    def test_views_given_twice(self):
        plan = cheapest(CUBE, (COUNTRY, COUNTRY), (("city",), ("zone",), ("city",)), (5, 1, 4))
        self.same([plan.chosen, plan.price], [(2,), 4])
        self.check_plan(CUBE, (COUNTRY, COUNTRY), (("city",), ("zone",), ("city",)), (5, 1, 4))
        self.check_plan(CUBE, (("*",),), (*THREE, *THREE), (3, 1, 2, 2, 2, 1))

    def test_no_plan(self):
        for wanteds, candidates in (
            ((("*",),), CITY[:2]), ((("city",),), THREE), ((COUNTRY,), ()), ((("*",), ("city",)), (("*",), *THREE)),
        ):
            self.assertIsNone(cheapest(CUBE, wanteds, candidates, (1,) * len(candidates)))
            self.assertIsNone(self.check_plan(CUBE, wanteds, candidates, (1,) * len(candidates)))

    def test_nothing_needs_to_be_stored(self):
        cube = Cube(NOTHING)
        for candidates in ((), (("a",),), (("b",), ("b",))):
            plan = cheapest(cube, (("b",), ("b",)), candidates, (4,) * len(candidates))
            self.same([plan.chosen, plan.price, plan.evidence], [(), 0, ()])
            self.check_plan(cube, (("b",),), candidates, (4,) * len(candidates))

    def test_ten_candidates_and_four_wanted_views(self):
        views = [(level,) for level in (*METRO.levels, "*")]
        candidates = tuple((views + views)[:10])
        prices = (3, 9, 2, 2, 2, 5, 3, 8, 2, 3)
        self.check_plan(CUBE, (("*",), COUNTRY, ("metro",), ("zone",)), candidates, prices)
        self.check_plan(CUBE, (("*",), COUNTRY, ("metro",), ("city",)), candidates, prices)

    def test_great_prices(self):
        plan = cheapest(CUBE, (("*",),), CITY, (10 ** 40, 10 ** 40, 1, 2 * 10 ** 40))
        self.same([plan.chosen, plan.price], [(3,), 2 * 10 ** 40])
        self.check_plan(CUBE, (("*",),), CITY, (10 ** 40, 10 ** 40, 1, 2 * 10 ** 40 + 2))

    def test_more_dimensions(self):
        cube = Cube(METRO, Schema("item", ("item", "kind")))
        candidates = (("state", "item"), ("zone", "*"), ("metro", "item"), ("city", "*"), ("zone", "item"))
        for wanteds in ((("*", "*"),), (("country", "item"),), (("country", "*"), ("zone", "kind"))):
            self.check_plan(cube, wanteds, candidates, (1, 2, 1, 6, 3))


class UseTest(StoreCase):
    def test_by_position_and_by_name(self):
        plan = cheapest(prices=(2, 2, 2, 7), candidates=CITY, wanteds=(("*",),), cube=CUBE)
        self.same([plan.chosen, plan.price], [(0, 1, 2), 6])
        self.same(cheapest(CUBE, (("*",),), CITY, prices=(2, 2, 2, 5)).chosen, (3,))

    def test_equal_calls(self):
        first, second = [cheapest(CUBE, (("*",), COUNTRY), CITY, (2, 2, 2, 7)) for _ in range(2)]
        self.same([first.chosen, first.price], [second.chosen, second.price])
        found = [[(index, spot.first, spot.second, spot.cell) for index, spot in plan.evidence]
                 for plan in (first, second)]
        self.assertEqual(*found)

    def test_what_is_given_stays(self):
        wanteds, candidates, prices = (("*",),), (("state",), ("zone",), ("metro",)), (1, 2, 3)
        cheapest(CUBE, wanteds, candidates, prices)
        self.same([wanteds, candidates, prices], [(("*",),), (("state",), ("zone",), ("metro",)), (1, 2, 3)])

    def test_equal_to_itself_alone(self):
        first, second = [cheapest(CUBE, (("*",),), CITY, (2, 2, 2, 7)) for _ in range(2)]
        self.same([first == second, first != second, first == first, bool(first)], [False, True, True, True])
        for value in odd_values() + [first.chosen, CUBE]:
            self.assertIs(first == value, False)

    def test_properties_cannot_be_assigned(self):
        plan = cheapest(CUBE, (("*",),), CITY, (2, 2, 2, 7))
        for name in ("chosen", "price", "evidence"):
            with self.assertRaises(AttributeError):
                setattr(plan, name, ())


class WrongUseTest(StoreCase):
    def test_values_that_are_no_cubes(self):
        for value in odd_values() + [Sly(), METRO, (METRO,), SALES, Cube]:
            with self.subTest(value=value):
                self.raises(NotACube, {"value": value}, cheapest, value, (COUNTRY,), THREE, (1, 1, 1))
                self.raises(NotACube, {"value": value}, cheapest, prices=5, candidates=5, wanteds=5, cube=value)

    def test_wanted_views_that_are_no_tuple_or_a_wrong_number(self):
        wrong = [value for value in odd_values() if not isinstance(value, tuple)] + [
            Sly(), (), (COUNTRY,) * 5, (5,) * 5, [COUNTRY], {COUNTRY: 1}, CUBE]
        for value in wrong:
            with self.subTest(value=value):
                self.raises(InvalidWanted, {"index": None}, cheapest, CUBE, value, THREE, (1, 1, 1))
                self.raises(InvalidWanted, {"index": None}, cheapest, prices=5, candidates=5, wanteds=value, cube=CUBE)

    def test_elements_that_are_no_wanted_views(self):
        for value in odd_values() + [Sly(), "country", ["country"], ("country", "*"), (), ("jp",), (Sly(),)]:
            with self.subTest(value=value):
                self.raises(InvalidWanted, {"index": 0}, cheapest, CUBE, (value,), THREE, (1, 1, 1))
                self.raises(InvalidWanted, {"index": 0}, cheapest, CUBE, (value, value), 5, 5)
                self.raises(InvalidWanted, {"index": 3}, cheapest, CUBE, (*THREE, value), THREE, (1, 1, 1))
                self.raises(InvalidWanted, {"index": 1}, cheapest, CUBE, (COUNTRY, value, 5), THREE, (1, 1, 1))

    def test_candidates_that_are_no_tuple_or_too_many(self):
        wrong = [value for value in odd_values() if not isinstance(value, tuple)] + [
            Sly(), list(THREE), (COUNTRY,) * 11, (5,) * 11, {COUNTRY: 1}, CUBE]
        for value in wrong:
            with self.subTest(value=value):
                self.raises(InvalidStored, {"index": None}, cheapest, CUBE, (COUNTRY,), value, (1, 1, 1))
                self.raises(InvalidStored, {"index": None}, cheapest, prices=5, candidates=value, wanteds=(COUNTRY,),
                            cube=CUBE)

    def test_elements_that_are_no_candidates(self):
        for value in odd_values() + [Sly(), "country", ["country"], ("country", "*"), (), ("jp",), (Sly(),)]:
            with self.subTest(value=value):
                self.raises(InvalidStored, {"index": 0}, cheapest, CUBE, (COUNTRY,), (value,), (1,))
                self.raises(InvalidStored, {"index": 9}, cheapest, CUBE, (COUNTRY,), (COUNTRY,) * 9 + (value,), 5)
                self.raises(InvalidStored, {"index": 2}, cheapest, CUBE, (COUNTRY,), (*CITY[:2], value, 5), (0, 0, 0))

    def test_prices_that_are_no_tuple_or_a_wrong_number(self):
        wrong = [value for value in odd_values() if not isinstance(value, tuple)] + [
            Sly(), [1, 1, 1], (), (1, 1), (1, 1, 1, 1), (0, 0), ("x",) * 4, {1: 1}, CUBE]
        for value in wrong:
            with self.subTest(value=value):
                self.raises(InvalidPrices, {"index": None}, cheapest, CUBE, (COUNTRY,), THREE, value)
                self.raises(InvalidPrices, {"index": None}, cheapest, prices=value, candidates=THREE,
                            wanteds=(COUNTRY,), cube=CUBE)
        self.raises(InvalidPrices, {"index": None}, cheapest, CUBE, (COUNTRY,), (), (1,))

    def test_elements_that_are_no_prices(self):
        wrong = [value for value in odd_values() + [Sly(), -5, (1,), "1", [1]]
                 if isinstance(value, bool) or not isinstance(value, int) or value < 1]
        self.assertTrue(any(value is True for value in wrong) and any(value == 0 for value in wrong))
        for value in wrong:
            with self.subTest(value=value):
                self.raises(InvalidPrices, {"index": 0}, cheapest, CUBE, (COUNTRY,), THREE, (value, 1, 1))
                self.raises(InvalidPrices, {"index": 1}, cheapest, CUBE, (COUNTRY,), THREE, (1, value, value))
                self.raises(InvalidPrices, {"index": 2}, cheapest, CUBE, (COUNTRY,), THREE, (1, 1, value))

    def test_sixty_base_cell_shapes(self):
        for cube in sixties():
            plan = cheapest(cube, (cube.base, ("*",) * len(cube)), (cube.base,), (3,))
            self.same([plan.chosen, plan.price], [(0,), 3])

    def test_more_than_sixty_base_cell_shapes(self):
        for cube in more_than_sixty():
            everything = ("*",) * len(cube)
            for wanteds in ((everything,), (cube.base,)):
                self.raises(TooMany, {"limit": 60}, cheapest, cube, wanteds, (cube.base,), (3,))
        cube = Cube(wide(8), wide(12))
        few = ("u0", "u0")
        self.same(cheapest(cube, (few, few), (cube.base,), (2,)).price, 2)
        for wanteds in ((few, ("*", "*")), (("*", "*"), few), (few, few, few, ("u0", "*"))):
            self.raises(TooMany, {"limit": 60}, cheapest, cube, wanteds, (cube.base,), (3,))

    def test_the_order_of_errors(self):
        cube = Cube(SIXTY, SIXTY)
        many, base = ("*", "*"), cube.base
        self.raises(TooMany, {"limit": 60}, cheapest, cube, (many,), (base,), (1,))
        self.raises(InvalidPrices, {"index": 0}, cheapest, cube, (many,), (base,), (True,))
        self.raises(InvalidPrices, {"index": None}, cheapest, cube, (many,), (base,), ())
        self.raises(InvalidStored, {"index": 1}, cheapest, cube, (many,), (base, 5), (True,))
        self.raises(InvalidWanted, {"index": 1}, cheapest, cube, (many, 5), (base, 5), (True,))
        self.raises(NotACube, {"value": InvalidView}, cheapest, InvalidView, (many, 5), (base, 5), (True,))


if __name__ == "__main__":
    unittest.main()
