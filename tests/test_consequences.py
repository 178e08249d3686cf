"""What follows from rules: possible levels, conditions that follow, equal rules, idle rules."""

import random
import unittest

from raggedtotals.conditions import All, Any, Condition, Marked, Not, Reaches, Way
from raggedtotals.consequences import breaking, follows, idle_rules, is_possible, rules_difference, same_rules
from raggedtotals.errors import InvalidLevel, NotACondition, NotASchema, NotComparable, TooMany
from raggedtotals.hierarchies import example_of
from raggedtotals.schemas import Schema
from raggedtotals.shapes import Shape
from tests import model
from tests.helpers import Case, odd_values
from tests.places import Sly

LINKS = (("city", "state"), ("city", "zone"), ("state", "country"))


def random_pieces(chance):
    """Links, marks and rules as trees for a small schema with the base a."""
    links = model.random_links(chance, "abcde"[:chance.randint(1, 5)], chance.randint(0, 6))
    levels = sorted(model.above(links, "a"))
    marks = {level: ["x", "y"][:chance.randint(1, 2)] for level in levels if chance.random() < 0.3}
    trees = [(chance.choice(levels), model.random_tree(chance, levels, "xyz", chance.randint(1, 3)))
             for _ in range(chance.randint(0, 5))]
    return links, marks, trees


def schema_from(links, marks, trees):
    """The schema with these pieces; None if it has too many candidates."""
    rows = tuple((level, *marks[level]) for level in marks)
    try:
        return Schema("a", *links, marks=rows, rules=tuple((level, model.condition_of(tree)) for level, tree in trees))
    except TooMany:
        return None


def random_schemas(seed, count):
    """Schemas with the pieces that they are made of."""
    chance = random.Random(seed)
    for _ in range(count):
        links, marks, trees = random_pieces(chance)
        schema = schema_from(links, marks, trees)
        if schema is not None:
            yield chance, schema, links, marks, trees


class ExampleTest(Case):
    def test_example(self):
        rules = (("city", Reaches("country")), ("city", Reaches("state")), ("state", Reaches("country")))
        schema = Schema("city", *LINKS, rules=rules)
        fewer = Schema("city", *LINKS, rules=rules[1:])
        found = [
            follows(schema, "city", Reaches("zone")), str(breaking(schema, "city", Reaches("zone"))),
            follows(fewer, "city", Reaches("country")), idle_rules(schema), same_rules(schema, fewer),
            is_possible(fewer.with_rule("state", ~Reaches("country")), "city"),
        ]
        self.same(found, [False, "city city>state state>country", True, (0, 1), True, False])


class PossibleTest(Case):
    def test_possible_levels(self):
        schema = Schema("a", ("a", "b"), ("b", "c"), ("a", "c"), rules=(("b", Any()),))
        self.same([is_possible(schema, level) for level in "abc"], [True, False, True])
        schema = schema.with_rule("a", Reaches("b"))
        self.same([is_possible(level=level, schema=schema) for level in "abc"], [False, False, True])
        self.same(is_possible(Schema("a"), "a"), True)

    def test_as_counted_out(self):
        seen = []
        for _, schema, links, marks, trees in random_schemas(1, 200):
            counted = model.counted_out("a", links, marks, trees)
            for level in schema.levels:
                self.assertIs(is_possible(schema, level), len(counted[level][1]) > 0)
                seen.append(is_possible(schema, level))
        self.assertTrue(seen.count(True) > 50 and seen.count(False) > 50)


class FollowsTest(Case):
    def test_what_an_impossible_level_keeps(self):
        schema = Schema("a", ("a", "b"), rules=(("b", Any()), ("a", Reaches("b"))))
        for level in "ab":
            self.assertIs(follows(schema, level, Any()), True)
            self.assertIsNone(breaking(schema, level, Any()))

    def test_rules_follow(self):
        for _, schema, _, _, _ in random_schemas(2, 100):
            for level, condition in schema.rules:
                self.assertIs(follows(schema, level, condition), True)
                self.assertIsNone(breaking(schema, level, condition))

    def test_conditions_that_name_other_levels(self):
        schema = Schema("a", ("a", "b"))
        self.same([follows(schema, "a", Reaches("z")), follows(schema, "a", ~Reaches("z")),
                   follows(schema, "b", Reaches("a")), follows(schema, "b", ~Marked("z", "x"))],
                  [False, True, False, True])
        self.same(str(breaking(schema, "b", Way("z"))), "b")

    def test_as_counted_out(self):
        seen = []
        for chance, schema, links, marks, trees in random_schemas(3, 200):
            for level in schema.levels:
                tree = model.random_tree(chance, "abcdez", "xyz", 3)
                plains = [plain for plain in model.plain_shapes(level, links, marks) if model.keeps(plain, trees)]
                wrong = [model.text_of_plain(plain) for plain in plains if not model.truth(tree, plain)]
                self.check(schema, level, model.condition_of(tree), wrong)
                seen.append(not wrong)
        self.assertTrue(seen.count(True) > 50 and seen.count(False) > 50)

    def check(self, schema, level, condition, wrong):
        """Check the answers for a condition that these shapes make false."""
        self.assertIs(follows(schema, level, condition), not wrong)
        self.assertIs(follows(condition=condition, level=level, schema=schema), not wrong)
        found = breaking(schema, level, condition)
        self.assertEqual(found, breaking(level=level, schema=schema, condition=condition))
        if not wrong:
            self.assertIsNone(found)
            return
        self.assertIsInstance(found, Shape)
        self.assertIn(str(found), wrong)
        hierarchy = example_of(schema, found)
        self.assertIs(condition(hierarchy.shape(level)), False)


class SameRulesTest(Case):
    def test_other_rules_for_the_same_shapes(self):
        first = Schema("a", ("a", "b"), ("a", "c"), rules=(("a", Reaches("b")), ("a", Reaches("c"))))
        second = Schema("a", ("a", "b"), ("a", "c"), rules=(("a", All(Way("b"), Way("c"))),))
        self.assertIs(same_rules(first, second), True)
        self.assertIs(same_rules(other=first, schema=second), True)
        self.assertIsNone(rules_difference(first, second))
        self.assertIsNone(rules_difference(first, first))

    def test_a_difference_at_an_upper_level_alone(self):
        first = Schema("a", ("a", "b"), ("b", "c"), rules=(("a", Any()),))
        second = first.with_rule("c", Any()).with_rule("b", Any())
        self.assertIs(same_rules(first, second), False)
        self.assertIn(str(rules_difference(first, second)), ("b", "b b>c", "c"))
        self.assertIn(str(rules_difference(second, first)), ("b", "b b>c", "c"))

    def test_schemas_that_cannot_be_compared(self):
        schema = Schema("a", ("a", "b"), ("b", "c"), marks=(("b", "x"),))
        others = [
            Schema("a", ("a", "b"), marks=(("b", "x"),)), Schema("a", ("a", "b"), ("a", "c"), marks=(("b", "x"),)),
            Schema("a", ("a", "b"), ("b", "c")), Schema("a", ("a", "b"), ("b", "c"), marks=(("b", "y"),)),
            Schema("a", ("a", "b"), ("b", "c"), marks=(("b", "x", "y"),)), Schema("b", ("b", "c"), marks=(("b", "x"),)),
            Schema("a", ("a", "b"), ("b", "c"), marks=(("c", "x"),)), Schema("d"),
            Schema("a", ("a", "b"), ("b", "c"), ("a", "c"), marks=(("b", "x"),)),
        ]
        for other in others:
            for call in (same_rules, rules_difference):
                self.raises(NotComparable, {}, call, schema, other)
                self.raises(NotComparable, {}, call, other, schema)
                self.raises(NotComparable, {}, call, other=other, schema=schema)
        self.raises(NotComparable, {}, same_rules, Schema("a"), Schema("b"))
        impossible = [Schema(base, ("a", "b") if base == "a" else ("b", "a"), rules=((base, Any()),)) for base in "ab"]
        self.raises(NotComparable, {}, same_rules, *impossible)

    def test_the_order_of_marks_and_links_is_nothing(self):
        first = Schema("a", ("a", "b"), ("a", "c"), marks=(("a", "x", "y"), ("b", "z")))
        second = Schema("a", ("a", "c"), ("a", "b"), marks=(("b", "z"), ("a", "y", "x")))
        self.assertIs(same_rules(first, second), True)

    def test_as_counted_out(self):
        seen = []
        for chance, schema, links, marks, trees in random_schemas(4, 250):
            levels = list(schema.levels)
            others = [(chance.choice(levels), model.random_tree(chance, levels, "xy", 2)) for _ in range(2)]
            given = trees[1:] if chance.random() < 0.5 else trees + others
            other = schema_from(links, marks, given)
            if other is None:
                continue
            shapes = [model.counted_out("a", links, marks, rows) for rows in (trees, given)]
            texts = [{text for level in levels for text in found[level][1]} for found in shapes]
            self.assertIs(same_rules(schema, other), texts[0] == texts[1])
            found = rules_difference(schema, other)
            self.assertEqual(found, rules_difference(other=other, schema=schema))
            if texts[0] == texts[1]:
                self.assertIsNone(found)
            else:
                self.assertIn(str(found), texts[0] ^ texts[1])
                self.assertIs(schema.allows(found) != other.allows(found), True)
            seen.append(texts[0] == texts[1])
        self.assertTrue(seen.count(True) > 30 and seen.count(False) > 30)


class IdleTest(Case):
    def test_small_schemas(self):
        for rules, wanted in (
            ((), ()), ((("a", All()),), (0,)), ((("a", Any()),), ()), ((("a", Any()), ("a", Any())), (0, 1)),
            ((("a", Reaches("b")),), ()), ((("a", Reaches("b")), ("a", Way("b"))), (0, 1)),
            ((("a", Reaches("b")), ("b", All()), ("a", Not(Way("c")))), (1,)),
            ((("b", Any()), ("a", Not(Way("b")))), (1,)), ((("a", Not(Way("b"))), ("b", Any())), (0,)),
            ((("b", Reaches("b")), ("c", Not(Reaches("b"))), ("a", Reaches("a"))), (0, 1, 2)),
        ):
            with self.subTest(rules):
                schema = Schema("a", ("a", "b"), ("a", "c"), rules=rules)
                self.same(idle_rules(schema), wanted)
                self.same(idle_rules(schema=schema), wanted)

    def test_rules_of_an_impossible_level(self):
        # No candidate of a is left, since each of its shapes reaches b or not, so the second rule alone is enough.
        schema = Schema("a", ("a", "b"), rules=(("a", Reaches("b")), ("a", Not(Reaches("b"))), ("b", Any())))
        self.same(idle_rules(schema), (1,))

    def test_twenty_rules(self):
        rules = tuple(("a" if at % 2 else "b", All()) for at in range(20))
        self.same(idle_rules(Schema("a", ("a", "b"), rules=rules)), tuple(range(20)))

    def test_as_counted_out(self):
        seen = [0, 0]
        for _, schema, links, marks, trees in random_schemas(5, 300):
            wanted = []
            for index, (level, tree) in enumerate(trees):
                plains = [plain for plain in model.plain_shapes(level, links, marks)
                          if model.keeps(plain, trees, left_out=level)]
                others = [row[1] for at, row in enumerate(trees) if at != index and row[0] == level]
                kept = [plain for plain in plains if all(model.truth(other, plain) for other in others)]
                if all(model.truth(tree, plain) for plain in kept):
                    wanted.append(index)
                seen[index in wanted] += 1
            self.same(idle_rules(schema), tuple(wanted))
        self.assertTrue(min(seen) > 50, seen)

    def test_leaving_an_idle_rule_out_changes_nothing(self):
        for _, schema, links, marks, trees in random_schemas(6, 100):
            for index in idle_rules(schema):
                other = schema_from(links, marks, trees[:index] + trees[index + 1:])
                if other is not None:
                    self.assertIs(same_rules(schema, other), True)


class WrongTest(Case):
    SCHEMA = Schema("a", ("a", "b"))

    def test_values_that_are_no_schemas(self):
        for value in odd_values() + ["base a", Sly(), Schema]:
            if isinstance(value, Schema):
                continue
            fields = {"value": value}
            with self.subTest(value=value):
                self.raises(NotASchema, fields, is_possible, value, "a")
                self.raises(NotASchema, fields, is_possible, value, 5)
                self.raises(NotASchema, fields, follows, value, 5, 5)
                self.raises(NotASchema, fields, breaking, condition=5, level=5, schema=value)
                self.raises(NotASchema, fields, same_rules, value, self.SCHEMA)
                self.raises(NotASchema, fields, same_rules, value, 5)
                self.raises(NotASchema, fields, same_rules, self.SCHEMA, value)
                self.raises(NotASchema, fields, rules_difference, value, None)
                self.raises(NotASchema, fields, rules_difference, other=value, schema=self.SCHEMA)
                self.raises(NotASchema, fields, idle_rules, value)

    def test_values_that_are_no_levels(self):
        for value in odd_values() + ["z", "A", "aa", Sly(), ["a"], ("a",)]:
            fields = {"value": value}
            with self.subTest(value=value):
                self.raises(InvalidLevel, fields, is_possible, self.SCHEMA, value)
                self.raises(InvalidLevel, fields, follows, self.SCHEMA, value, Reaches("a"))
                self.raises(InvalidLevel, fields, breaking, self.SCHEMA, value, 5)
                self.raises(InvalidLevel, fields, follows, condition=5, level=value, schema=self.SCHEMA)

    def test_values_that_are_no_conditions(self):
        for value in odd_values() + ["all()", All, Sly()]:
            if isinstance(value, Condition):
                continue
            fields = {"value": value}
            with self.subTest(value=value):
                self.raises(NotACondition, fields, follows, self.SCHEMA, "a", value)
                self.raises(NotACondition, fields, breaking, self.SCHEMA, "a", value)
                self.raises(NotACondition, fields, breaking, condition=value, level="b", schema=self.SCHEMA)

    def test_what_is_given_stays(self):
        text = str(self.SCHEMA)
        condition = Reaches("b")
        follows(self.SCHEMA, "a", condition)
        same_rules(self.SCHEMA, self.SCHEMA)
        idle_rules(self.SCHEMA)
        self.same([str(self.SCHEMA), str(condition), [str(shape) for shape in self.SCHEMA.shapes("a")]],
                  [text, "reaches(b)", ["a", "a a>b"]])


if __name__ == "__main__":
    unittest.main()
