"""Conditions for single shapes, schemas with bans, and the fewest bans that determine a view."""

import itertools
import unittest

from raggedtotals.bans import exactly, fewest_bans, with_bans
from raggedtotals.conditions import Condition, Reaches, Way
from raggedtotals.consequences import follows
from raggedtotals.cubes import Cube
from raggedtotals.errors import (
    InvalidShapes, InvalidStored, InvalidView, NotAllowed, NotASchema, NotAShape, TooMany,
)
from raggedtotals.schemas import Schema
from raggedtotals.shapes import Shape
from raggedtotals.sums import is_determined
from raggedtotals.texts import read_condition
from tests import sights, spots
from tests.helpers import Case, odd_values
from tests.places import Sly
from tests.test_sums import METRO, SALES, SIXTY, THREE, wide

# Eight levels, fourteen links and marks at all levels, and yet few candidates.
FULL = Schema.read(
    "base a\nlink a b\nlink a c\nlink a d\nlink b c\nlink b d\nlink c d\nlink c e\nlink d e\nlink d f\nlink e f\n"
    "link e g\nlink f g\nlink f h\nlink g h\nmarks a k\nmarks b k\nmarks c k\nmarks d k\nmarks e k\nmarks f k\n"
    "marks g k\nmarks h k l\nrule g way(h)\nrule f all(way(g), way(h))\nrule e all(way(f), way(g))\n"
    "rule d all(way(e), way(f))\nrule c all(way(d), way(e))"
)


class BanCase(Case):
    def check_exactly(self, schema, shape):
        """Check the condition of an allowed shape against all allowed shapes of its level."""
        condition = exactly(schema, shape)
        self.assertIsInstance(condition, Condition)
        self.assertTrue(set(condition.levels) <= set(schema.levels))
        self.assertTrue(condition.parts <= 60 and condition.depth <= 6)
        self.assertEqual(read_condition(str(condition)), condition)
        for other in schema.shapes(shape.level):
            self.assertIs(condition(other), str(other) == str(shape))
        return condition

    def check_bans(self, schema, shapes):
        """Check a schema with bans of some of its base shapes; return it."""
        banned = with_bans(schema, *shapes)
        self.assertIs(type(banned), Schema)
        self.assertEqual((banned.base, banned.links, banned.marks), (schema.base, schema.links, schema.marks))
        self.assertEqual(banned.rules[:len(schema.rules)], schema.rules)
        added = banned.rules[len(schema.rules):]
        self.assertEqual(len(added), len(shapes))
        for (level, condition), shape in zip(added, shapes):
            self.assertEqual(level, schema.base)
            for other in schema.shapes(schema.base):
                self.assertIs(condition(other), other != shape)
        for level in schema.levels:
            wished = [str(shape) for shape in schema.shapes(level) if level != schema.base or shape not in shapes]
            self.assertEqual([str(shape) for shape in banned.shapes(level)], wished)
        self.assertEqual(Schema.read(str(banned)), banned)
        return banned

    def check_fewest(self, schema, wanted, stored):
        """Check the fewest bans against all sets of base shapes that pass the view; return their number."""
        found = fewest_bans(schema, wanted, stored)
        self.assertIs(type(found), tuple)
        texts = [str(shape) for shape in found]
        self.assertEqual(texts, sorted(set(texts)))
        base = {str(shape) for shape in schema.shapes(schema.base)}
        self.assertTrue(set(texts) <= base and all(type(shape) is Shape for shape in found))
        groups = sights.groups(Cube(schema), wanted)
        self.assertTrue(self.settled(groups, wanted, stored, set(texts)))
        passing = [plains[0] for group in groups.values() for plains in group]
        names = [sights.texts((plain,))[0] for plain in passing]
        for chosen in itertools.chain(*[itertools.combinations(names, size) for size in range(len(found))]):
            self.assertFalse(self.settled(groups, wanted, stored, set(chosen)))
        return len(found)

    def settled(self, groups, wanted, stored, away):
        """Whether the totals are determined without the base shapes with these texts."""
        for group in groups.values():
            rest = [plains for plains in group if sights.texts(plains)[0] not in away]
            if not sights.solvable(sights.matrix(rest, wanted, stored), [1] * len(rest)):
                return False
        return True


class ExactlyTest(BanCase):
    def test_all_allowed_shapes_of_random_schemas(self):
        count = 0
        for schema in sights.some_schemas(81, 250):
            for level in schema.levels:
                for shape in schema.shapes(level):
                    self.check_exactly(schema, shape)
                    count += 1
        self.assertTrue(count > 400, count)

    def test_schemas_at_their_limits(self):
        self.same([len(FULL.levels), len(FULL.links)], [8, 14])
        sizes = set()
        for schema in (FULL, SIXTY, wide(60), METRO):
            for level in schema.levels:
                for shape in schema.shapes(level):
                    self.check_exactly(schema, shape)
                    sizes.add(len(shape.links))
        self.assertIn(14, sizes)

    def test_as_many_links_away_as_can_be(self):
        # A shape of all levels by seven links, while the other seven begin at its levels, too.
        links = [(f"l{at}", f"l{at + 1}") for at in range(7)]
        more = [(f"l{at}", f"l{at + 2}") for at in range(6)] + [("l0", "l3")]
        rules = tuple((f"l{at}", Way(f"l{at + 1}")) for at in range(7))
        few = tuple((f"l{at}", ~Way(f"l{at + 2}")) for at in range(1, 6))
        marks = tuple((f"l{at}", "m") for at in range(8))
        schema = Schema("l0", *links, *more, marks=marks, rules=rules + few)
        shape = Shape("l0", *links, marks=marks)
        self.assertIs(schema.allows(shape), True)
        self.check_exactly(schema, shape)

    def test_a_level_alone(self):
        schema = Schema("a", ("a", "b"))
        self.assertIs(self.check_exactly(schema, Shape("a"))(Shape("a", ("a", "b"))), False)
        self.check_exactly(schema, Shape("b"))
        self.check_exactly(Schema("a"), Shape("a"))
        self.check_exactly(Schema("a", marks=(("a", "x", "y"),)), Shape("a", marks=(("a", "y"),)))

    def test_exactly_this_shape_of_all_that_the_rules_leave(self):
        for schema in (METRO, SIXTY):
            for shape in schema.shapes(schema.base):
                only = schema.with_rule(schema.base, exactly(schema, shape))
                self.assertEqual([str(other) for other in only.shapes(schema.base)], [str(shape)])
                self.assertIs(follows(only, schema.base, exactly(schema, shape)), True)

    def test_shapes_that_are_not_allowed(self):
        wrong = [Shape("city"), Shape("shop"), Shape("city", ("city", "state")), Shape("country", marks=(("country", "x"),)),
                 Shape("state")]
        for shape in wrong:
            self.raises(NotAllowed, {"value": shape}, exactly, METRO, shape)
            self.raises(NotAllowed, {"value": shape}, exactly, shape=shape, schema=METRO)

    def test_other_values(self):
        for value in odd_values() + [Sly(), "country", METRO, Cube(METRO)]:
            with self.subTest(value=value):
                if not isinstance(value, Shape):
                    self.raises(NotAShape, {"value": value}, exactly, METRO, value)
                if not isinstance(value, Schema):
                    self.raises(NotASchema, {"value": value}, exactly, value, Shape("country"))
                    self.raises(NotASchema, {"value": value}, exactly, shape=5, schema=value)


class BansTest(BanCase):
    def test_random_schemas(self):
        for schema in sights.some_schemas(82, 60):
            shapes = list(schema.shapes(schema.base))
            for size in range(min(3, len(shapes)) + 1):
                for chosen in itertools.islice(itertools.permutations(shapes, size), 6):
                    if len(schema.rules) + size <= 20:
                        self.check_bans(schema, chosen)

    def test_no_bans(self):
        self.assertEqual(with_bans(METRO), METRO)
        self.assertEqual(with_bans(schema=METRO), METRO)

    def test_all_shapes_of_the_base(self):
        banned = self.check_bans(METRO, tuple(METRO.shapes("city")))
        self.assertEqual(list(banned.shapes("city")), [])
        self.assertIs(is_determined(Cube(banned), ("*",), ()), True)

    def test_twenty_rules_met_exactly_and_passed_by_one(self):
        for schema in (SIXTY, wide(60)):
            shapes = tuple(schema.shapes("a"))[:21]
            self.check_bans(schema, shapes[:20])
            self.raises(TooMany, {"limit": 20}, with_bans, schema, *shapes)
            for many in (1, 12, 19, 20):
                more = Schema(schema.base, *schema.links, marks=schema.marks, rules=(("a", Reaches("a")),) * many)
                self.check_bans(more, shapes[:20 - many])
                self.raises(TooMany, {"limit": 20}, with_bans, more, *shapes[:21 - many])

    def test_bans_at_the_limits_of_schemas(self):
        shapes = [shape for shape in FULL.shapes("a") if len(shape.links) > 10]
        banned = self.check_bans(FULL, tuple(shapes[:20 - len(FULL.rules)]))
        self.assertEqual(len(banned.rules), 20)

    def test_what_is_determined_stays_determined(self):
        count = 0
        for _, cube, wanted, stored in sights.random_cubes(83, 120):
            if len(cube) == 1 and is_determined(cube, wanted, stored) and len(cube.schemas[0].rules) < 20:
                for shape in cube.schemas[0].shapes(cube.base[0]):
                    self.assertIs(is_determined(Cube(with_bans(cube.schemas[0], shape)), wanted, stored), True)
                    count += 1
        self.assertTrue(count > 60, count)

    def test_values_that_are_no_schemas(self):
        for value in odd_values() + [Sly(), str(METRO), Cube(METRO), SALES]:
            if not isinstance(value, Schema):
                with self.subTest(value=value):
                    self.raises(NotASchema, {"value": value}, with_bans, value)
                    self.raises(NotASchema, {"value": value}, with_bans, value, 5, 5)

    def test_values_that_are_no_shapes_of_the_base(self):
        good = tuple(METRO.shapes("city"))
        wrong = odd_values() + [Sly(), Shape("city"), Shape("country"), next(METRO.shapes("state")), str(good[0]),
                                (good[0],), [good[0]], "*", Shape("city", ("city", "state"))]
        for value in wrong:
            with self.subTest(value=value):
                self.raises(InvalidShapes, {"index": 0}, with_bans, METRO, value)
                self.raises(InvalidShapes, {"index": 0}, with_bans, METRO, value, value)
                self.raises(InvalidShapes, {"index": 1}, with_bans, METRO, good[0], value, good[0])
                self.raises(InvalidShapes, {"index": 3}, with_bans, METRO, *good, value)

    def test_shapes_that_came_before(self):
        good = tuple(METRO.shapes("city"))
        self.raises(InvalidShapes, {"index": 1}, with_bans, METRO, good[0], good[0], 5)
        self.raises(InvalidShapes, {"index": 2}, with_bans, METRO, good[1], good[0], Shape.read(str(good[1])))

    def test_the_order_of_errors(self):
        shapes = tuple(SIXTY.shapes("a"))[:21]
        self.raises(InvalidShapes, {"index": 21}, with_bans, SIXTY, *shapes, shapes[3])
        self.raises(InvalidShapes, {"index": 24}, with_bans, SIXTY, *tuple(SIXTY.shapes("a"))[:24], 5)
        self.raises(TooMany, {"limit": 20}, with_bans, SIXTY, *shapes)


class FewestTest(BanCase):
    def test_random_questions(self):
        seen = {}
        for _, cube, wanted, stored in sights.random_cubes(84, 900, most=9):
            if len(cube) == 1:
                many = self.check_fewest(cube.schemas[0], wanted, stored)
                seen[many] = seen.get(many, 0) + 1
        self.assertTrue(all(seen.get(many, 0) > 5 for many in (0, 1, 2, 4)), seen)

    def test_views_that_miss_little(self):
        # All views but the wanted and the base one, so that only few shapes need to go.
        for schema in sights.some_schemas(85, 200):
            views = [(level,) for level in schema.levels if level != schema.base]
            for wanted in (("*",), *views):
                stored = tuple(view for view in views if view != wanted)[:10]
                if len(spots.counts(Cube(schema), wanted, stored)) <= 8:
                    self.check_fewest(schema, wanted, stored)

    def test_the_example_of_a_metro(self):
        for wanted in (*[(level,) for level in METRO.levels], ("*",)):
            views = [(level,) for level in (*METRO.levels, "*")]
            for chosen in spots.subsets(len(views)):
                if len(chosen) <= 3:
                    self.check_fewest(METRO, wanted, tuple(views[place] for place in chosen))

    def test_with_the_bans_the_totals_are_determined(self):
        count = 0
        for _, cube, wanted, stored in sights.random_cubes(86, 250, most=12):
            if len(cube) == 1:
                schema = cube.schemas[0]
                shapes = fewest_bans(schema, wanted, stored)
                if len(schema.rules) + len(shapes) <= 20:
                    self.assertIs(is_determined(Cube(with_bans(schema, *shapes)), wanted, stored), True)
                    count += len(shapes) > 0
        self.assertTrue(count > 20, count)

    def test_no_stored_views(self):
        self.same([len(fewest_bans(METRO, ("*",), ())), fewest_bans(METRO, ("metro",), (("metro",),))], [3, ()])
        self.same(len(fewest_bans(METRO, ("metro",), ())), 1)

    def test_a_wanted_view_that_nothing_passes(self):
        schema = Schema.read("base a\nlink a b\nrule a not(reaches(b))")
        self.same([fewest_bans(schema, ("b",), stored) for stored in ((), (("a",),), (("b",), ("b",)))], [(), (), ()])

    def test_twelve_met_exactly_and_passed_by_one(self):
        twelve, sixteen = wide(12), wide(16)
        self.check_fewest(twelve, ("*",), tuple((level,) for level in twelve.levels[1:]))
        self.same(len(fewest_bans(twelve, ("*",), ())), 12)
        shapes = tuple(sixteen.shapes("a"))
        thirteen, again = with_bans(sixteen, *shapes[:3]), with_bans(sixteen, *shapes[:4])
        self.same([len(list(schema.shapes("a"))) for schema in (thirteen, again)], [13, 12])
        for stored in ((), (("a",),), (("*",), ("u0",), ("u1",))):
            self.raises(TooMany, {"limit": 12}, fewest_bans, thirteen, ("*",), stored)
            self.raises(TooMany, {"limit": 12}, fewest_bans, stored=stored, wanted=("a",), schema=thirteen)
            self.raises(TooMany, {"limit": 12}, fewest_bans, SIXTY, ("*",), (("a",), ("b",)))
            fewest_bans(again, ("*",), stored)
            fewest_bans(again, ("a",), stored)
        # Only what passes the wanted view counts for the limit.
        self.same([len(spots.counts(Cube(sixteen), (level,), ())) for level in ("u0", "*")], [12, 16])
        self.same(len(fewest_bans(sixteen, ("u0",), ())), 12)

    def test_twelve_shapes_of_which_many_must_go(self):
        twelve = wide(12)
        views = [(level,) for level in (*twelve.levels[1:], "*")]
        for chosen in spots.subsets(len(views)):
            stored = tuple(views[place] for place in chosen)
            found = fewest_bans(twelve, ("*",), stored)
            groups = sights.groups(Cube(twelve), ("*",))
            self.assertTrue(self.settled(groups, ("*",), stored, {str(shape) for shape in found}))

    def test_by_position_and_by_name(self):
        two = THREE[:2]
        self.same(len(fewest_bans(stored=two, wanted=("*",), schema=METRO)), 1)
        self.same(len(fewest_bans(METRO, ("*",), stored=two)), 1)
        self.same(len(fewest_bans(METRO, wanted=("*",), stored=THREE)), 0)

    def test_equal_calls(self):
        for stored in (THREE[:2], (), THREE[:1]):
            self.assertEqual(fewest_bans(METRO, ("*",), stored), fewest_bans(METRO, ("*",), stored))
        shape = next(METRO.shapes("city"))
        self.assertEqual(exactly(METRO, shape), exactly(METRO, shape))
        self.assertEqual(with_bans(METRO, shape), with_bans(METRO, shape))

    def test_what_is_given_stays(self):
        stored, text = (("state",), ("zone",)), str(METRO)
        fewest_bans(METRO, ("*",), stored)
        with_bans(METRO, next(METRO.shapes("city")))
        self.same([stored, str(METRO), len(list(METRO.shapes("city")))], [(("state",), ("zone",)), text, 3])

    def test_wrong_arguments(self):
        for value in odd_values() + [Sly(), Cube(METRO), str(METRO)]:
            with self.subTest(value=value):
                if not isinstance(value, Schema):
                    self.raises(NotASchema, {"value": value}, fewest_bans, value, ("*",), ())
                    self.raises(NotASchema, {"value": value}, fewest_bans, stored=5, wanted=5, schema=value)
                self.raises(InvalidView, {"value": value}, fewest_bans, METRO, value, ())
                self.raises(InvalidView, {"value": value}, fewest_bans, stored=5, wanted=value, schema=METRO)
                index = None if not isinstance(value, tuple) else 0
                self.raises(InvalidStored, {"index": index}, fewest_bans, METRO, ("*",), value)
                self.raises(InvalidStored, {"index": 1}, fewest_bans, METRO, ("*",), (("*",), value))
        self.raises(InvalidStored, {"index": None}, fewest_bans, METRO, ("*",), (("*",),) * 11)
        self.raises(InvalidView, {"value": ("*", "*")}, fewest_bans, METRO, ("*", "*"), ())

    def test_the_order_of_errors(self):
        self.raises(TooMany, {"limit": 12}, fewest_bans, SIXTY, ("*",), ())
        # The limit is one of the schema and the wanted view, so it comes before the stored views.
        self.raises(TooMany, {"limit": 12}, fewest_bans, SIXTY, ("*",), (5,))
        self.raises(InvalidStored, {"index": 0}, fewest_bans, METRO, ("*",), (5,))
        self.raises(InvalidView, {"value": "*"}, fewest_bans, SIXTY, "*", (5,))
        self.raises(NotASchema, {"value": 5}, fewest_bans, 5, "*", (5,))


if __name__ == "__main__":
    unittest.main()
