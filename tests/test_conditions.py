"""Conditions: the kinds, their parts, depth, limits, signs, and when they are true."""

import itertools
import random
import unittest

from raggedtotals.conditions import All, Any, Condition, If, Marked, Not, One, Reaches, Via, Way
from raggedtotals.errors import InvalidName, NotACondition, NotAShape, TooMany
from raggedtotals.schemas import Schema
from raggedtotals.shapes import Shape
from tests import model
from tests.helpers import Case, odd_values

KINDS = (Reaches, Way, Via, Marked, Not, All, Any, One, If)
WORDS = ("reaches", "way", "via", "marked", "not", "all", "any", "one", "if")
A, B, C = Reaches("a"), Reaches("b"), Reaches("c")
TRUE, FALSE = All(), Any()
ONE_OF_EACH = (
    A, Way("b", "c"), Via("b", "c"), Marked("c", "x"), Not(A), All(A, B), Any(A), One(A, B, C), If(A, B),
)
SHAPE = Shape("a", ("a", "b"), ("b", "c"), ("a", "d"), marks=(("c", "x"), ("d", "y")))


def nested(times):
    """A condition of this depth and as many parts."""
    condition = A
    for _ in range(times - 1):
        condition = Not(condition)
    return condition


def wide(parts):
    """A condition of depth 2 with so many parts."""
    return All(*[A for _ in range(parts - 1)])


class ExampleTest(Case):
    def test_truth(self):
        shape = Shape("city", ("city", "state"), ("state", "country"), marks=(("country", "federal"),))
        found = [
            Reaches("city")(shape), Way("country")(shape), Way("state", "country")(shape),
            Via("state", "country")(shape), Marked("country", "central")(shape),
            One(Reaches("state"), Way("country"))(shape), All()(shape), Any()(shape),
        ]
        self.same(found, [True, False, True, True, False, True, True, False])

    def test_text(self):
        condition = Reaches("metro") >> (~Way("zone") | Reaches("state"))
        found = [
            str(condition), condition.levels, condition.parts, condition.depth, Way.WORD, repr(~Reaches("a")),
            Reaches("a") & Reaches("b") == Reaches("b") & Reaches("a"),
        ]
        self.same(found, [
            "if(reaches(metro), any(not(way(zone)), reaches(state)))", ("metro", "state", "zone"), 6, 4, "way",
            "Condition(not(reaches(a)))", False,
        ])


class KindTest(Case):
    def test_words(self):
        self.same([kind.WORD for kind in KINDS], list(WORDS))
        self.same([condition.WORD for condition in ONE_OF_EACH], list(WORDS))

    def test_kinds_are_apart(self):
        for condition, kind in zip(ONE_OF_EACH, KINDS):
            self.assertIsInstance(condition, Condition)
            self.assertEqual([other for other in KINDS if isinstance(condition, other)], [kind])

    def test_texts_levels_parts_depth(self):
        for condition, text, levels, parts, depth in (
            (A, "reaches(a)", ("a",), 1, 1), (Way("a"), "way(a)", ("a",), 1, 1),
            (Way("c", "a", "b"), "way(c, a, b)", ("a", "b", "c"), 1, 1), (Way("a", "a"), "way(a, a)", ("a",), 1, 1),
            (Via("b", "a"), "via(b, a)", ("a", "b"), 1, 1), (Via("a", "a"), "via(a, a)", ("a",), 1, 1),
            (Marked("b", "a"), "marked(b, a)", ("b",), 1, 1), (Not(B), "not(reaches(b))", ("b",), 2, 2),
            (All(), "all()", (), 1, 1), (Any(), "any()", (), 1, 1), (One(), "one()", (), 1, 1),
            (All(B, A, B), "all(reaches(b), reaches(a), reaches(b))", ("a", "b"), 4, 2),
            (Any(B), "any(reaches(b))", ("b",), 2, 2), (One(Not(All())), "one(not(all()))", (), 3, 3),
            (If(Not(C), A), "if(not(reaches(c)), reaches(a))", ("a", "c"), 4, 3),
            (If(A, Any(Way("z"), One(Marked("y", "x")))), "if(reaches(a), any(way(z), one(marked(y, x))))",
             ("a", "y", "z"), 6, 4),
        ):
            with self.subTest(text):
                self.same([str(condition), condition.levels, condition.parts, condition.depth],
                          [text, levels, parts, depth])
                self.same([repr(condition), bool(condition)], [f"Condition({text})", True])

    def test_arguments_by_name(self):
        self.assertEqual(Reaches(level="a"), A)
        self.assertEqual(Via(level="a", through="b"), Via("b", "a"))
        self.assertEqual(Marked(mark="x", level="a"), Marked("a", "x"))
        self.assertEqual(Not(condition=A), Not(A))
        self.assertEqual(If(then=A, condition=B), If(B, A))
        self.same(A(shape=SHAPE), True)

    def test_equality(self):
        others = ONE_OF_EACH + (TRUE, FALSE, One(), All(B, A), Marked("b", "c"), Way("a"), Via("b", "a"), Any(A, B))
        for first, second in itertools.product(others, others):
            self.assertIs(first == second, str(first) == str(second))
            self.assertIs(first != second, str(first) != str(second))
        self.assertTrue(All(A, Not(B)) == All(Reaches("a"), ~Reaches("b")))

    def test_never_equal_to_another_class(self):
        for condition in ONE_OF_EACH:
            for value in odd_values() + [str(condition), repr(condition), condition.levels, type(condition)]:
                if isinstance(value, Condition):
                    continue
                self.assertIs(condition == value, False)
                self.assertIs(condition != value, True)
                self.assertIs(value == condition, False)

    def test_properties_cannot_be_assigned(self):
        for condition in ONE_OF_EACH:
            text = str(condition)
            for name in ("levels", "parts", "depth"):
                with self.assertRaises(AttributeError):
                    setattr(condition, name, 0)
            self.same(str(condition), text)

    def test_signs(self):
        for first, second in itertools.product(ONE_OF_EACH, ONE_OF_EACH):
            for found, wanted in (
                (first & second, All(first, second)), (first | second, Any(first, second)),
                (first >> second, If(first, second)), (~first, Not(first)),
            ):
                self.assertIs(type(found), type(wanted))
                self.assertEqual(found, wanted)


class ErrorTest(Case):
    def test_names(self):
        for value in odd_values():
            with self.subTest(value=value):
                fields = {"value": value}
                self.raises(InvalidName, fields, Reaches, value)
                self.raises(InvalidName, fields, Reaches, level=value)
                for good_first in (Way, Via, Marked):
                    self.raises(InvalidName, fields, good_first, "a", value)
                    self.raises(InvalidName, fields, good_first, value, "a")
                    self.raises(InvalidName, fields, good_first, value, "ANOTHER")
                self.raises(InvalidName, fields, Way, value)
                self.raises(InvalidName, fields, Way, "a", "b", value, 5)
        self.raises(InvalidName, {"value": None}, Way)

    def test_first_wrong_name(self):
        self.raises(InvalidName, {"value": "X"}, Via, level="Y", through="X")
        self.raises(InvalidName, {"value": "X"}, Marked, mark="Y", level="X")

    def test_values_that_are_no_conditions(self):
        for value in odd_values() + ["reaches(a)", [A], (A,), KINDS[0]]:
            if isinstance(value, Condition):
                continue
            with self.subTest(value=value):
                fields = {"value": value}
                self.raises(NotACondition, fields, Not, value)
                self.raises(NotACondition, fields, Not, condition=value)
                for kind in (All, Any, One):
                    self.raises(NotACondition, fields, kind, value)
                    self.raises(NotACondition, fields, kind, A, B, value, "another")
                self.raises(NotACondition, fields, If, value, "another")
                self.raises(NotACondition, fields, If, A, value)
                self.raises(NotACondition, fields, If, then="another", condition=value)

    def test_signs_with_values_that_are_no_conditions(self):
        for value in odd_values() + ["reaches(a)", [A], (A,)]:
            if isinstance(value, Condition):
                continue
            for condition in ONE_OF_EACH:
                self.raises(NotACondition, {"value": value}, lambda: condition & value)
                self.raises(NotACondition, {"value": value}, lambda: condition | value)
                self.raises(NotACondition, {"value": value}, lambda: condition >> value)

    def test_no_condition_before_the_limits(self):
        for kind in (All, Any, One):
            self.raises(NotACondition, {"value": 5}, kind, wide(60), wide(60), 5)
            self.raises(NotACondition, {"value": 5}, kind, nested(6), 5)
        self.raises(NotACondition, {"value": 5}, If, wide(60), 5)

    def test_sixty_parts(self):
        for kind in (All, Any, One):
            self.same(kind(*[A for _ in range(59)]).parts, 60)
            self.raises(TooMany, {"limit": 60}, kind, *[A for _ in range(60)])
            self.same(kind(wide(30), wide(29)).parts, 60)
            self.raises(TooMany, {"limit": 60}, kind, wide(30), wide(30))
        self.same([Not(wide(59)).parts, If(wide(30), wide(29)).parts, (wide(29) & wide(30)).parts], [60, 60, 60])
        self.raises(TooMany, {"limit": 60}, Not, wide(60))
        self.raises(TooMany, {"limit": 60}, If, wide(30), wide(30))
        self.raises(TooMany, {"limit": 60}, lambda: ~wide(60))
        self.raises(TooMany, {"limit": 60}, lambda: wide(30) & wide(30))
        self.raises(TooMany, {"limit": 60}, lambda: wide(30) | wide(30))
        self.raises(TooMany, {"limit": 60}, lambda: wide(30) >> wide(30))

    def test_depth_six(self):
        self.same([Not(nested(5)).depth, All(A, nested(5)).depth, If(nested(5), A).depth, (A | nested(5)).depth],
                  [6, 6, 6, 6])
        self.raises(TooMany, {"limit": 6}, Not, nested(6))
        for kind in (All, Any, One):
            self.raises(TooMany, {"limit": 6}, kind, A, nested(6))
        self.raises(TooMany, {"limit": 6}, If, A, nested(6))
        self.raises(TooMany, {"limit": 6}, If, nested(6), A)
        self.raises(TooMany, {"limit": 6}, lambda: ~nested(6))
        self.raises(TooMany, {"limit": 6}, lambda: nested(6) & A)
        self.raises(TooMany, {"limit": 6}, lambda: A | nested(6))
        self.raises(TooMany, {"limit": 6}, lambda: nested(6) >> A)
        self.same(Not(Not(Not(Not(Not(All()))))).depth, 6)
        self.raises(TooMany, {"limit": 6}, Not, Not(Not(Not(Not(Not(All()))))))

    def test_both_limits_at_once(self):
        self.raises(TooMany, {"limit": 60}, All, wide(60), nested(6))
        self.raises(TooMany, {"limit": 60}, All, *[nested(6) for _ in range(10)])
        self.raises(TooMany, {"limit": 6}, All, *[nested(6) for _ in range(9)])
        self.same(All(wide(54), nested(5)).parts, 60)
        self.raises(TooMany, {"limit": 6}, All, wide(53), nested(6))
        self.raises(TooMany, {"limit": 60}, All, wide(54), nested(6))

    def test_values_that_are_no_shapes(self):
        for value in odd_values():
            if isinstance(value, Shape):
                continue
            for condition in ONE_OF_EACH + (TRUE, FALSE, One()):
                self.raises(NotAShape, {"value": value}, condition, value)
                self.raises(NotAShape, {"value": value}, condition, shape=value)


class TruthTest(Case):
    def check(self, wanted, *conditions):
        """Check the truth of conditions for the shape above."""
        for condition in conditions:
            with self.subTest(str(condition)):
                self.assertIs(condition(SHAPE), wanted)
                self.assertIs(Not(condition)(SHAPE), not wanted)

    def test_reaches(self):
        self.check(True, Reaches("a"), Reaches("b"), Reaches("c"), Reaches("d"))
        self.check(False, Reaches("e"), Reaches("x"))

    def test_way(self):
        self.check(True, Way("b"), Way("d"), Way("b", "c"))
        self.check(False, Way("a"), Way("c"), Way("b", "d"), Way("a", "b"), Way("b", "b"), Way("b", "c", "d"),
                   Way("e"), Way("d", "e"), Way("e", "b"))

    def test_via(self):
        self.check(True, Via("a", "a"), Via("a", "c"), Via("b", "c"), Via("b", "b"), Via("c", "c"), Via("a", "d"))
        self.check(False, Via("b", "a"), Via("c", "b"), Via("b", "d"), Via("d", "c"), Via("e", "e"), Via("a", "e"),
                   Via("e", "a"))

    def test_marked(self):
        self.check(True, Marked("c", "x"), Marked("d", "y"))
        self.check(False, Marked("c", "y"), Marked("d", "x"), Marked("a", "x"), Marked("e", "x"), Marked("c", "z"))

    def test_compounds(self):
        self.check(True, TRUE, All(TRUE), All(A, B, C), Any(FALSE, A), Any(A, B), One(A), One(FALSE, A, FALSE),
                   If(FALSE, FALSE), If(FALSE, TRUE), If(TRUE, TRUE), Not(FALSE), Not(One()))
        self.check(False, FALSE, One(), Any(FALSE), All(A, FALSE, B), All(FALSE), One(A, B), One(A, B, C), One(FALSE),
                   If(TRUE, FALSE), Not(TRUE), One(A, FALSE, A))

    def test_at_other_levels(self):
        self.same([Way("c")(SHAPE.part("b")), Reaches("a")(SHAPE.part("b")), Reaches("b")(Shape("b"))],
                  [True, False, True])

    def test_against_a_second_reading(self):
        chance = random.Random(5)
        plains = []
        for _ in range(12):
            links = model.random_links(chance, "abcde", 6)
            marks = {"b": ("x",), "d": ("x", "y"), "e": ("y",)}
            plains.extend(chance.sample(model.plain_shapes("a", links, marks), 1))
        plains.append(("b", frozenset(), {}))
        for _ in range(1500):
            tree = model.random_tree(chance, "abcdef", "xyz", chance.randint(1, 5))
            if model.parts_of(tree) > 60:
                continue
            condition = model.condition_of(tree)
            self.same(
                [str(condition), condition.levels, condition.parts, condition.depth],
                [model.text_of(tree), tuple(sorted(model.levels_of(tree))), model.parts_of(tree),
                 model.depth_of(tree)],
            )
            for plain in plains:
                self.assertIs(condition(model.shape_of(plain)), model.truth(tree, plain))

    def test_nothing_changes(self):
        texts = [str(condition) for condition in ONE_OF_EACH]
        for condition in ONE_OF_EACH:
            condition(SHAPE)
            ~condition
            condition & A
        self.same([str(condition) for condition in ONE_OF_EACH], texts)
        self.same(str(SHAPE), "a a>b a>d b>c c=x d=y")


class OtherClassTest(Case):
    def test_conditions_shapes_and_schemas_are_never_equal(self):
        self.assertIs(Reaches("a") == Schema("a"), False)
        self.assertIs(Shape("a") == Schema("a"), False)


if __name__ == "__main__":
    unittest.main()
