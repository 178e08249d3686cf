"""Certificates: the true one of two claims that exclude each other, in a form that the checker accepts."""

import unittest

from raggedtotals.cellshapes import texts_of
from raggedtotals.certificates import certify_follows, certify_greatest, certify_price, certify_totals
from raggedtotals.checker import holds
from raggedtotals.conditions import Marked, Reaches, Way
from raggedtotals.consequences import follows
from raggedtotals.cubes import Cube
from raggedtotals.errors import (
    InvalidLevel, InvalidPrices, InvalidRules, InvalidStored, InvalidView, InvalidWanted, NotACondition, NotACube,
    NotASchema, TooMany,
)
from raggedtotals.schemas import Schema
from raggedtotals.stores import cheapest
from raggedtotals.sums import find_formula
from tests import model, proofs, sights, spots
from tests.helpers import Case, odd_values
from tests.places import Sly
from tests.questions import WrongQuestions, more_than_sixty, sixties
from tests.test_consequences import random_schemas
from tests.test_sums import COUNTRY, CUBE, METRO, SIXTY, THREE


def allowed_texts(schema):
    """The ascending list of the texts of all allowed shapes."""
    return sorted(str(shape) for level in schema.levels for shape in schema.shapes(level))


class CertifyCase(Case):
    def check_pair(self, found):
        """Check that a pair is accepted; return it."""
        self.assertIs(type(found), tuple)
        claim, certificate = found
        self.assertIs(holds(claim, certificate), True)
        return claim, certificate

    def check_lists(self, cube, lists):
        """Check that complete lists have exactly the allowed shapes."""
        self.assertEqual([sorted(texts) for texts in lists], [allowed_texts(schema) for schema in cube.schemas])

    def check_totals(self, cube, wanted, stored):
        claim, certificate = self.check_pair(certify_totals(cube, wanted, stored))
        known = sights.has_formula(cube, wanted, stored)
        texts = tuple(str(schema) for schema in cube.schemas)
        self.same(claim, ("determined" if known else "not determined", texts, wanted, stored))
        other = ("not determined" if known else "determined", *claim[1:])
        self.assertIs(holds(other, certificate), False)
        if known:
            self.check_lists(cube, certificate[0])
            rows = find_formula(cube, wanted, stored).rows
            self.assertEqual([row[0] for row in certificate[1]], [texts_of(cube, part) for part, _ in rows])
        return known

    def check_greatest(self, cube, wanted, stored):
        claim, certificate = self.check_pair(certify_greatest(cube, wanted, stored))
        known = spots.determined(cube, wanted, stored, "greatest")
        texts = tuple(str(schema) for schema in cube.schemas)
        self.same(claim, ("greatest determined" if known else "greatest not determined", texts, wanted, stored))
        self.assertIs(holds(("greatest not determined" if known else "greatest determined", *claim[1:]), certificate),
                      False)
        if known:
            self.check_lists(cube, certificate)
        return known


class FollowsTest(CertifyCase):
    def test_random_conditions(self):
        seen = {True: 0, False: 0}
        for chance, schema, _, _, _ in random_schemas(121, 120):
            for _ in range(4):
                level = chance.choice(schema.levels)
                condition = model.condition_of(model.random_tree(chance, schema.levels, ["x", "y"], 3))
                claim, certificate = self.check_pair(certify_follows(schema, level, condition))
                known = follows(schema, level, condition)
                self.same(claim, ("follows" if known else "does not follow", str(schema), level, str(condition)))
                if known:
                    self.assertEqual(sorted(certificate), allowed_texts(schema))
                else:
                    self.assertIn(certificate, [str(shape) for shape in schema.shapes(level)])
                    self.assertIs(holds(("follows", *claim[1:]), certificate), False)
                seen[known] += 1
        self.assertTrue(min(seen.values()) > 50, seen)

    def test_a_level_without_allowed_shapes(self):
        schema = Schema("a", ("a", "b"), rules=(("a", ~Reaches("a")),))
        claim, certificate = self.check_pair(certify_follows(schema, "a", Reaches("b") & ~Reaches("b")))
        self.same([claim[0], certificate], ["follows", ("b",)])

    def test_by_position_and_by_name(self):
        claim, certificate = self.check_pair(
            certify_follows(condition=Reaches("country"), level="city", schema=METRO))
        self.same([claim[0], len(certificate)], ["follows", 7])
        self.assertEqual(certify_follows(METRO, "city", Reaches("zone")), certify_follows(METRO, "city", Reaches("zone")))

    def test_conditions_with_other_levels(self):
        for condition in (Reaches("shop"), ~Way("state", "shop"), Marked("shop", "x"), Reaches("city") | Reaches("a")):
            self.raises(InvalidRules, {"index": None}, certify_follows, METRO, "city", condition)
            self.raises(InvalidRules, {"index": None}, certify_follows, condition=condition, level="zone", schema=METRO)
        self.check_pair(certify_follows(METRO, "city", Marked("state", "nix")))

    def test_wrong_arguments(self):
        for value in odd_values() + [Sly(), str(METRO), Cube(METRO), "reaches(city)", ("city",)]:
            with self.subTest(value=value):
                if not isinstance(value, Schema):
                    self.raises(NotASchema, {"value": value}, certify_follows, value, "city", Reaches("city"))
                    self.raises(NotASchema, {"value": value}, certify_follows, condition=5, level=5, schema=value)
                self.raises(InvalidLevel, {"value": value}, certify_follows, METRO, value, Reaches("city"))
                self.raises(InvalidLevel, {"value": value}, certify_follows, METRO, value, 5)
                if not isinstance(value, type(Reaches("a"))):
                    self.raises(NotACondition, {"value": value}, certify_follows, METRO, "city", value)
        self.raises(InvalidLevel, {"value": "shop"}, certify_follows, METRO, "shop", Reaches("shop"))


class ViewsTest(CertifyCase):
    def test_random_questions(self):
        seen = {}
        for _, cube, wanted, stored in sights.random_cubes(122, 220):
            for kind, found in (("total", self.check_totals(cube, wanted, stored)),
                                ("greatest", self.check_greatest(cube, wanted, stored))):
                seen[kind, found] = seen.get((kind, found), 0) + 1
        self.assertTrue(len(seen) == 4 and min(seen.values()) > 40, seen)

    def test_all_views_of_a_small_cube(self):
        views = spots.views_of(CUBE)
        for wanted in views:
            for chosen in spots.subsets(len(views)):
                if len(chosen) <= 2:
                    stored = tuple(views[place] for place in chosen)
                    known = self.check_totals(CUBE, wanted, stored)
                    self.assertTrue(self.check_greatest(CUBE, wanted, stored) or not known)

    def test_the_second_reading_accepts_them_too(self):
        for _, cube, wanted, stored in sights.random_cubes(123, 60, most=12):
            if all(len(schema.links) <= 6 for schema in cube.schemas):
                for certify in (certify_totals, certify_greatest):
                    self.assertIs(proofs.accepts(*certify(cube, wanted, stored)), True)

    def test_by_position_and_by_name(self):
        for certify in (certify_totals, certify_greatest):
            for stored in (THREE, THREE[:2], ()):
                found = certify(stored=stored, wanted=COUNTRY, cube=CUBE)
                self.check_pair(found)
                self.assertEqual(found, certify(CUBE, COUNTRY, stored))

    def test_what_is_given_stays(self):
        stored, wanted = (("state",), ("zone",)), ("country",)
        certify_totals(CUBE, wanted, stored)
        certify_greatest(CUBE, wanted, stored)
        self.same([stored, wanted], [(("state",), ("zone",)), ("country",)])

    def test_certificates_of_sixty_base_cell_shapes(self):
        for cube in sixties()[::3]:
            everything = ("*",) * len(cube)
            self.assertIs(self.check_totals(cube, everything, (cube.base,)), True)
            self.assertIs(self.check_greatest(cube, everything, (cube.base, everything)), True)
            self.check_totals(cube, cube.base, (everything,))
            self.check_greatest(cube, cube.base, (everything,))


class WrongQuestionTest(WrongQuestions, Case):
    def calls(self):
        return [certify_totals, certify_greatest]


class PriceTest(CertifyCase):
    def check_price(self, cube, wanteds, candidates, prices):
        found = certify_price(cube, wanteds, candidates, prices)
        plan = cheapest(cube, wanteds, candidates, prices)
        if plan is None:
            self.assertIsNone(found)
            return False
        claim, _ = self.check_pair(found)
        texts = tuple(str(schema) for schema in cube.schemas)
        self.same(claim, ("price", texts, wanteds, candidates, prices, plan.price))
        return True

    def test_random_plans(self):
        seen = {True: 0, False: 0}
        for chance, cube, wanted, _ in sights.random_cubes(124, 120, most=30):
            views = spots.views_of(cube)
            candidates = tuple(chance.choice(views) for _ in range(chance.randint(0, 10)))
            prices = tuple(chance.choice((1, 2, 3, 10 ** 30)) for _ in candidates)
            seen[self.check_price(cube, (wanted,) * chance.randint(1, 4), candidates, prices)] += 1
        self.assertTrue(min(seen.values()) > 20, seen)

    def test_some_plans(self):
        views = (*THREE, ("city",))
        for prices in ((2, 2, 2, 7), (2, 2, 2, 5), (1, 1, 1, 1)):
            for wanteds in ((("*",),), (("*",), COUNTRY), (("*",), ("metro",), ("zone",), ("city",))):
                self.assertIs(self.check_price(CUBE, wanteds, views, prices), True)
        self.assertIs(self.check_price(CUBE, (("city",),), THREE, (1, 1, 1)), False)

    def test_by_position_and_by_name(self):
        found = certify_price(prices=(1, 1, 1), candidates=THREE, wanteds=(("*",),), cube=CUBE)
        self.check_pair(found)
        self.assertEqual(found, certify_price(CUBE, (("*",),), THREE, (1, 1, 1)))

    def test_wrong_arguments(self):
        for value in odd_values() + [Sly(), METRO, "country"]:
            with self.subTest(value=value):
                self.raises(NotACube, {"value": value}, certify_price, value, (COUNTRY,), THREE, (1, 1, 1))
                self.raises(NotACube, {"value": value}, certify_price, prices=5, candidates=5, wanteds=5, cube=value)
                for place, error in ((0, InvalidWanted), (1, InvalidStored), (2, InvalidPrices)):
                    good = [(COUNTRY,), (("state",), ("zone",)), (1, 1)]
                    if not isinstance(value, tuple):
                        self.raises(error, {"index": None}, certify_price, CUBE, *good[:place], value, *good[place + 1:])
                    if not (place == 2 and type(value) is int and value > 0):
                        rest = good[place][1:]
                        self.raises(error, {"index": 0}, certify_price, CUBE, *good[:place], (value, *rest),
                                    *good[place + 1:])
        self.raises(InvalidWanted, {"index": None}, certify_price, CUBE, (), THREE, (1, 1, 1))
        self.raises(InvalidWanted, {"index": None}, certify_price, CUBE, (COUNTRY,) * 5, 5, 5)
        self.raises(InvalidPrices, {"index": None}, certify_price, CUBE, (COUNTRY,), THREE, (1, 1))

    def test_the_order_of_errors(self):
        cube = Cube(SIXTY, SIXTY)
        many, base = ("*", "*"), cube.base
        self.raises(TooMany, {"limit": 60}, certify_price, cube, (many,), (base,), (1,))
        self.raises(InvalidPrices, {"index": 0}, certify_price, cube, (many,), (base,), (0,))
        self.raises(InvalidStored, {"index": 0}, certify_price, cube, (many,), (5,), (0,))
        self.raises(InvalidWanted, {"index": 1}, certify_price, cube, (many, 5), (5,), (0,))
        self.raises(NotACube, {"value": InvalidView}, certify_price, InvalidView, (5,), (5,), (0,))
        for cube in more_than_sixty():
            self.raises(TooMany, {"limit": 60}, certify_price, cube, (("*",) * len(cube),), (cube.base,), (1,))


if __name__ == "__main__":
    unittest.main()
