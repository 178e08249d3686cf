"""Shapes: how they are made and read, their parts, and what they equal."""

import itertools
import unittest

from raggedtotals.conditions import Reaches
from raggedtotals.errors import InvalidLinks, InvalidMarks, InvalidName, InvalidText
from raggedtotals.schemas import Schema
from raggedtotals.shapes import Shape
from tests.helpers import Case, near_rows, near_texts, odd_values

CITY = "city city>state state>country country=federal"
DIAMOND = (("a", "b"), ("a", "c"), ("b", "d"), ("c", "d"))
TEXTS = [
    "a", "abcdefgh", "a a=x", "a a>b", "a a>b a>c b>d c>d", "a a>b b>c c>d", CITY, "city city>country city>state",
    "a a>b a=x b=x", "a a=a", "b b>a a=b b=a", "a a>b a>b2 b2>b b=x b2=y", "a a>b a>c a>d b>c b>d c>d d=m",
]


class CreationTest(Case):
    def test_examples(self):
        shape = Shape("city", ("state", "country"), ("city", "state"), marks=(("country", "federal"),))
        found = [
            str(shape), shape.levels, str(shape.part("state")), shape.part("zone"), shape.mark("country"),
            "state" in shape, shape.part("city") == shape, repr(Shape("city")),
        ]
        self.same(found, [
            CITY, ("city", "country", "state"), "state state>country country=federal", None, "federal", True, True,
            "Shape(city)",
        ])
        self.raises(InvalidLinks, {"index": None}, Shape, "city", ("state", "country"))

    def test_links_in_any_order(self):
        for links in itertools.permutations(DIAMOND):
            shape = Shape("a", *links)
            self.same(str(shape), "a a>b a>c b>d c>d")
            self.same([shape.level, shape.levels, shape.links, shape.marks], ["a", ("a", "b", "c", "d"), DIAMOND, ()])

    def test_marks_in_any_order(self):
        marks = (("a", "z"), ("b", "y"), ("c", "y"), ("d", "x"))
        for given in itertools.permutations(marks):
            shape = Shape("a", *DIAMOND, marks=given)
            self.same(shape.marks, marks)
            self.same(str(shape), "a a>b a>c b>d c>d a=z b=y c=y d=x")

    def test_order_is_that_of_the_pairs(self):
        shape = Shape("a", ("a", "b2"), ("a", "b"), ("b2", "b"), ("b", "c"), marks=(("b2", "x"), ("b", "y")))
        self.same(shape.links, (("a", "b"), ("a", "b2"), ("b", "c"), ("b2", "b")))
        self.same(shape.marks, (("b", "y"), ("b2", "x")))
        self.same(str(shape), "a a>b a>b2 b>c b2>b b=y b2=x")

    def test_level_by_name(self):
        self.same(str(Shape(level="a", marks=(("a", "x"),))), "a a=x")
        self.same(str(Shape(marks=(), level="a")), "a")

    def test_invalid_name(self):
        for value in odd_values():
            with self.subTest(value=value):
                self.raises(InvalidName, {"value": value}, Shape, value)
                self.raises(InvalidName, {"value": value}, Shape, level=value)

    def test_invalid_name_comes_first(self):
        self.raises(InvalidName, {"value": "A"}, Shape, "A", 5, marks=6)

    def test_elements_that_are_no_links(self):
        for value in odd_values():
            with self.subTest(value=value):
                self.raises(InvalidLinks, {"index": 0}, Shape, "a", value)
                self.raises(InvalidLinks, {"index": 1}, Shape, "a", ("a", "b"), value)
                self.raises(InvalidLinks, {"index": 0}, Shape, "a", value, ("a", "b"))

    def test_links_that_came_before(self):
        self.raises(InvalidLinks, {"index": 1}, Shape, "a", ("a", "b"), ("a", "b"))
        self.raises(InvalidLinks, {"index": 2}, Shape, "a", ("a", "b"), ("b", "c"), ("a", "b"), 5)
        self.raises(InvalidLinks, {"index": 1}, Shape, "a", ("x", "y"), ("x", "y"))

    def test_first_wrong_link_before_the_whole(self):
        self.raises(InvalidLinks, {"index": 2}, Shape, "a", ("x", "y"), ("y", "x"), ("x", "x"), marks=5)
        self.raises(InvalidLinks, {"index": 1}, Shape, "a", ("a", "b"), ["b", "c"], ("a", "b"))

    def test_what_cannot_be_reached(self):
        for links in ((("b", "c"),), (("a", "b"), ("c", "d")), (("a", "b"), ("c", "b")), (("b", "a"),)):
            with self.subTest(links):
                self.raises(InvalidLinks, {"index": None}, Shape, "a", *links)

    def test_circles(self):
        for links in (
            (("a", "b"), ("b", "a")), (("a", "b"), ("b", "c"), ("c", "b")), (("a", "b"), ("b", "c"), ("c", "a")),
            (("b", "c"), ("c", "b")), (("a", "b"), ("c", "d"), ("d", "c")),
            (("a", "b"), ("b", "c"), ("c", "d"), ("d", "e"), ("e", "c"), ("a", "f")),
        ):
            with self.subTest(links):
                self.raises(InvalidLinks, {"index": None}, Shape, "a", *links, marks=5)

    def test_long_ways(self):
        names = [f"l{at}" for at in range(300)]
        links = list(zip(names, names[1:]))
        shape = Shape("l0", *reversed(links))
        self.assertEqual(len(shape.levels), 300)
        self.assertEqual(len(shape.part("l150").levels), 150)
        self.raises(InvalidLinks, {"index": None}, Shape, "l0", *links, ("l299", "l0"))
        self.raises(InvalidLinks, {"index": None}, Shape, "l1", *links)

    def test_marks_that_are_no_tuple(self):
        for value in [None, 5, True, "a", [], [("a", "x")], {}, {("a", "x")}, b"a", Shape("a")]:
            with self.subTest(value=value):
                self.raises(InvalidMarks, {"index": None}, Shape, "a", marks=value)

    def test_elements_that_are_no_marks(self):
        wrong = odd_values() + [("a", value) for value in odd_values()] + [(value, "x") for value in odd_values()]
        for value in wrong + [(), ("b", "x"), ("a", "x", "y"), ["a", "x"], "ax"]:
            if value == ("a", "a"):
                continue
            with self.subTest(value=value):
                self.raises(InvalidMarks, {"index": 0}, Shape, "a", marks=(value,))
                self.raises(InvalidMarks, {"index": 1}, Shape, "a", ("a", "c"), marks=(("c", "x"), value, 5))

    def test_levels_of_marks_that_came_before(self):
        self.raises(InvalidMarks, {"index": 1}, Shape, "a", marks=(("a", "x"), ("a", "x")))
        self.raises(InvalidMarks, {"index": 2}, Shape, "a", ("a", "b"), marks=(("a", "x"), ("b", "x"), ("a", "y")))

    def test_nothing_is_modified(self):
        marks = (("b", "x"), ("a", "y"))
        links = [("b", "c"), ("a", "b")]
        Shape("a", *links, marks=marks)
        self.same([marks, links], [(("b", "x"), ("a", "y")), [("b", "c"), ("a", "b")]])


class ReadTest(Case):
    def test_good_texts(self):
        for text in TEXTS:
            with self.subTest(text):
                self.same(str(Shape.read(text)), text)
                self.assertTrue(Shape.read(text=text) == Shape.read(text))

    def test_the_same_as_made(self):
        shape = Shape.read(CITY)
        made = Shape("city", ("state", "country"), ("city", "state"), marks=(("country", "federal"),))
        self.assertTrue(shape == made)
        self.same([shape.level, shape.levels, shape.links, shape.marks],
                  [made.level, made.levels, made.links, made.marks])

    def test_texts_that_are_nearly_right(self):
        for text in TEXTS:
            words = near_rows(text, " ")
            for other in near_texts(text, " >=aA0,\n(") + words:
                self.check_near(other)

    def check_near(self, text):
        """Check that a text is either read as itself or not at all."""
        try:
            shape = Shape.read(text)
        except InvalidText as error:
            self.assertIs(error.value, text)
            self.assertIs(type(error), InvalidText)
        else:
            self.assertEqual(str(shape), text)
            self.assertEqual(Shape(shape.level, *shape.links, marks=shape.marks), shape)

    def test_wrong_texts(self):
        for text in (
            "", " ", "a ", " a", "a  a>b", "a\n", "a\na>b", "A", "a>b", "a=b", "a b", "a a>a", "a b>c", "a a>b b>a",
            "a a>c a>b", "a a>b a>b", "a a=x a=x", "a a=x a=y", "a a=x a>b", "a a>b b=x a=x", "a a>b>c", "a a>b=c",
            "a a=b>c", "a a=", "a =x", "a >b", "a a>", "a >", "a =", "a c=x", "a a=x=y", "a a>B", "a a=X", "a,a>b",
            "a\ta>b", "a a>b\n", "\na", "a a >b", "a a> b", "country=federal city", "a a>b a>c c>d b>d", "a a=x y",
            "abcdefghi", "a a>abcdefghi", "a a=abcdefghi",
        ):
            with self.subTest(text):
                self.raises(InvalidText, {"value": text}, Shape.read, text)
                self.raises(InvalidText, {"value": text}, Shape.read, text=text)

    def test_values_that_are_no_texts(self):
        for value in odd_values() + [Shape("a"), b"a"]:
            with self.subTest(value=value):
                self.raises(InvalidText, {"value": value}, Shape.read, value)


class PartTest(Case):
    def test_parts(self):
        shape = Shape("a", *DIAMOND, ("d", "e"), marks=(("b", "x"), ("e", "y")))
        for level, text in (
            ("a", "a a>b a>c b>d c>d d>e b=x e=y"), ("b", "b b>d d>e b=x e=y"), ("c", "c c>d d>e e=y"),
            ("d", "d d>e e=y"), ("e", "e e=y"),
        ):
            with self.subTest(level):
                part = shape.part(level)
                self.same([str(part), part.level], [text, level])
                self.assertTrue(part == Shape.read(text) == shape.part(level=level))

    def test_parts_of_parts(self):
        shape = Shape.read("a a>b a>c b>d c>d c>e d>e a=x d=y")
        for level in shape.levels:
            part = shape.part(level)
            for other in part.levels:
                self.assertEqual(part.part(other), shape.part(other))

    def test_values_that_are_no_levels(self):
        shape = Shape.read(CITY)
        for value in odd_values() + ["federal", "zone", "cit", "city ", "city>state"]:
            with self.subTest(value=value):
                self.assertIsNone(shape.part(value))
                self.assertIsNone(shape.mark(value))
                self.assertIs(value in shape, False)

    def test_marks_and_levels(self):
        shape = Shape.read("a a>b b>c a=x c=y")
        self.same([shape.mark("a"), shape.mark("b"), shape.mark(level="c"), shape.mark("x")], ["x", None, "y", None])
        self.same([level in shape for level in ("a", "b", "c", "d", "x")], [True, True, True, False, False])

    def test_the_shape_stays_as_it_was(self):
        shape = Shape.read("a a>b b>c a=x c=y")
        shape.part("b")
        shape.mark("c")
        self.same([str(shape), shape.links, shape.marks], ["a a>b b>c a=x c=y", (("a", "b"), ("b", "c")),
                                                            (("a", "x"), ("c", "y"))])

    def test_properties_cannot_be_assigned(self):
        shape = Shape.read("a a>b a=x")
        for name in ("level", "levels", "links", "marks"):
            with self.assertRaises(AttributeError):
                setattr(shape, name, ())
        self.same(str(shape), "a a>b a=x")


class EqualityTest(Case):
    def test_equal_exactly_with_the_same_text(self):
        for one, other in itertools.product(TEXTS, TEXTS):
            first, second = Shape.read(one), Shape.read(other)
            self.assertIs(first == second, one == other)
            self.assertIs(first != second, one != other)

    def test_never_equal_to_another_class(self):
        for text in TEXTS:
            shape = Shape.read(text)
            others = odd_values() + [text, shape.levels, shape.links, (text,), Schema("b"), Reaches("b"), repr(shape)]
            for value in others:
                if isinstance(value, Shape):
                    continue
                self.assertIs(shape == value, False)
                self.assertIs(shape != value, True)
                self.assertIs(value == shape, False)

    def test_texts_and_truth(self):
        for text in TEXTS:
            shape = Shape.read(text)
            self.same([str(shape), repr(shape), f"{shape}", bool(shape)], [text, f"Shape({text})", text, True])


if __name__ == "__main__":
    unittest.main()
