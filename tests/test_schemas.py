"""Schemas: how they are made and read, what they are asked, and the shapes that they allow."""

import itertools
import random
import unittest

from raggedtotals.conditions import All, Any, Condition, Marked, Not, One, Reaches, Via, Way
from raggedtotals.errors import (
    InvalidLevel, InvalidLinks, InvalidMarks, InvalidName, InvalidRules, InvalidText, NotACondition, NotAShape, TooMany,
)
from raggedtotals.schemas import Schema
from raggedtotals.shapes import Shape
from tests import model
from tests.helpers import Case, near_rows, near_texts, odd_values

ROWS = (("city", One(Reaches("state"), Way("country"))), ("state", Reaches("country")))
CITY_LINKS = (("state", "country"), ("city", "state"), ("city", "country"))
CITY_TEXT = (
    "base city\nlink city country\nlink city state\nlink state country\n"
    "rule city one(reaches(state), way(country))\nrule state reaches(country)"
)
TEXTS = [
    "base a", "base a\nmarks a x", "base a\nmarks a w x y z", "base a\nlink a b", "base a\nrule a all()",
    "base a\nrule a any()\nrule a all()", "base a\nlink a b\nlink a c\nlink b c\nmarks b x y\nmarks c z",
    "base shop\nlink shop city\nmarks city new old", CITY_TEXT,
    "base a\nlink a b\nmarks a x\nmarks b x\nrule b marked(a, y)\nrule a not(way(b))\nrule b marked(a, y)",
]
CHAIN = tuple((f"l{at}", f"l{at + 1}") for at in range(7))
SKIPS = tuple((f"l{at}", f"l{at + 2}") for at in range(6))
FOURTEEN = CHAIN + SKIPS + (("l4", "l7"),)
FIFTEEN = FOURTEEN + (("l3", "l7"),)
STAR = tuple(("a", f"u{at}") for at in range(7))


def limited(base, links, marks=(), trees=()):
    """The schema with rules from trees."""
    rules = tuple((level, model.condition_of(tree)) for level, tree in trees)
    return Schema(base, *links, marks=marks, rules=rules)


def one_way(links):
    """A rule for each level with links, that exactly one of them is a way."""
    lowers = sorted({lower for lower, _ in links})
    return [(level, ("one", *[("way", upper) for lower, upper in links if lower == level])) for level in lowers]


class ExampleTest(Case):
    def test_first(self):
        schema = Schema("city", ("state", "country"), ("city", "state"), ("city", "country"), rules=ROWS)
        shapes = list(schema.shapes("city"))
        found = [
            schema.levels, schema.above("city"), len(shapes), str(shapes[0]), str(shapes[1]),
            schema.allows(Shape("state")), schema.fits(Shape("state")), repr(schema),
        ]
        self.same(found, [
            ("city", "country", "state"), ("country", "state"), 2, "city city>country",
            "city city>state state>country", False, True, "Schema(3 levels, 2 rules)",
        ])

    def test_second(self):
        schema = Schema("shop", ("shop", "city"), marks=(("city", "old", "new"),))
        found = [
            str(schema), len(list(schema.shapes("shop"))),
            Schema.read("base shop\nlink shop city\nmarks city new old") == schema, schema.marks_of("shop"),
        ]
        self.same(found, ["base shop\nlink shop city\nmarks city new old", 3, True, ()])


class CreationTest(Case):
    def test_links_in_any_order(self):
        for links in itertools.permutations(CITY_LINKS):
            schema = Schema("city", *links, rules=ROWS)
            self.same([schema.base, schema.levels, schema.links, schema.marks], [
                "city", ("city", "country", "state"),
                (("city", "country"), ("city", "state"), ("state", "country")), (),
            ])
            self.same(str(schema), CITY_TEXT)

    def test_marks_in_any_order(self):
        rows = (("b", "z", "y"), ("a", "n", "m", "o"), ("c", "x"))
        for marks in itertools.permutations(rows):
            schema = Schema("a", ("a", "b"), ("a", "c"), marks=marks, rules=(("a", Reaches("b")),))
            self.same(schema.marks, (("a", "m", "n", "o"), ("b", "y", "z"), ("c", "x")))
            self.same(str(schema), "base a\nlink a b\nlink a c\nmarks a m n o\nmarks b y z\nmarks c x\n"
                                   "rule a reaches(b)")

    def test_rules_keep_their_order(self):
        rules = (("b", Reaches("a")), ("a", Reaches("b")), ("b", All()), ("b", Reaches("a")))
        for given in itertools.permutations(rules):
            schema = Schema("a", ("a", "b"), rules=given)
            self.assertEqual(schema.rules, given)
            self.assertEqual([str(condition) for _, condition in schema.rules], [str(rule[1]) for rule in given])

    def test_arguments_by_name(self):
        schema = Schema(rules=(("a", All()),), marks=(("a", "x"),), base="a")
        self.same(str(schema), "base a\nmarks a x\nrule a all()")

    def test_invalid_name(self):
        for value in odd_values():
            with self.subTest(value=value):
                self.raises(InvalidName, {"value": value}, Schema, value)
                self.raises(InvalidName, {"value": value}, Schema, base=value)
        self.raises(InvalidName, {"value": "A"}, Schema, "A", 1, marks=2, rules=3)

    def test_elements_that_are_no_links(self):
        for value in odd_values():
            with self.subTest(value=value):
                self.raises(InvalidLinks, {"index": 0}, Schema, "a", value)
                self.raises(InvalidLinks, {"index": 2}, Schema, "a", ("a", "b"), ("b", "c"), value, 5, marks=5)

    def test_links_that_came_before(self):
        self.raises(InvalidLinks, {"index": 1}, Schema, "a", ("a", "b"), ("a", "b"))
        self.raises(InvalidLinks, {"index": 2}, Schema, "a", ("x", "y"), ("y", "x"), ("x", "y"), 5)

    def test_links_as_a_whole(self):
        for links in (
            (("b", "c"),), (("a", "b"), ("c", "d")), (("b", "a"),), (("a", "b"), ("b", "a")),
            (("a", "b"), ("b", "c"), ("c", "b")), (("a", "b"), ("c", "d"), ("d", "c")), (("a", "b"), ("c", "b")),
        ):
            with self.subTest(links):
                self.raises(InvalidLinks, {"index": None}, Schema, "a", *links, marks=5, rules=5)

    def test_fourteen_links(self):
        self.same(len(limited("l0", FOURTEEN, trees=one_way(FOURTEEN)).links), 14)
        self.raises(InvalidLinks, {"index": None}, Schema, "l0", *FIFTEEN)
        self.raises(InvalidLinks, {"index": None}, Schema, "l0", *FOURTEEN, 5)
        self.raises(InvalidLinks, {"index": None}, Schema, "l0", *[5 for _ in range(15)])
        self.raises(InvalidLinks, {"index": 13}, Schema, "l0", *FOURTEEN[:13], 5)
        self.raises(InvalidLinks, {"index": 13}, Schema, "l0", *FOURTEEN[:13], FOURTEEN[0])

    def test_eight_levels(self):
        self.same(len(Schema("l0", *CHAIN).levels), 8)
        self.raises(InvalidLinks, {"index": None}, Schema, "l0", *CHAIN, ("l7", "l8"))
        self.raises(InvalidLinks, {"index": None}, Schema, "l0", *CHAIN, ("l7", "l8"), marks=5)
        self.raises(InvalidLinks, {"index": 8}, Schema, "l0", *CHAIN, ("l7", "l8"), "x")

    def test_marks_that_are_no_tuple(self):
        for value in [None, 5, True, "a", [], [("a", "x")], {}, {("a", "x")}, b"a", Schema("a")]:
            with self.subTest(value=value):
                self.raises(InvalidMarks, {"index": None}, Schema, "a", marks=value)
                self.raises(InvalidMarks, {"index": None}, Schema, "a", marks=value, rules=value)

    def test_elements_that_are_no_rows_of_marks(self):
        wrong = odd_values() + [(), ("a",), ("c", "x"), ["a", "x"], ("a", "x", "x"), ("a", "x", "y", "x"),
                                ("a", "v", "w", "x", "y", "z"), ("a", ("x", "y")), ("a", "x", "Y"), ("A", "x")]
        wrong.extend([("a", value) for value in odd_values()] + [("a", "x", value) for value in odd_values()])
        wrong.extend([(value, "x") for value in odd_values()])
        for value in [item for item in wrong if item not in (("a", "a"), ("a", "b", "c"))]:
            with self.subTest(value=value):
                self.raises(InvalidMarks, {"index": 0}, Schema, "a", marks=(value,), rules=5)
                self.raises(InvalidMarks, {"index": 1}, Schema, "a", ("a", "d"), marks=(("d", "x"), value, 5))

    def test_levels_of_marks_that_came_before(self):
        self.raises(InvalidMarks, {"index": 1}, Schema, "a", marks=(("a", "x"), ("a", "y")))
        self.raises(InvalidMarks, {"index": 2}, Schema, "a", ("a", "b"), marks=(("a", "x"), ("b", "x"), ("a", "x")))

    def test_four_marks(self):
        self.same(Schema("a", marks=(("a", "z", "x", "y", "w"),)).marks_of("a"), ("w", "x", "y", "z"))
        self.raises(InvalidMarks, {"index": 0}, Schema, "a", marks=(("a", "v", "w", "x", "y", "z"),))

    def test_rules_that_are_no_tuple(self):
        for value in [None, 5, True, "a", [], [("a", All())], {}, b"a", All(), Schema("a")]:
            with self.subTest(value=value):
                self.raises(InvalidRules, {"index": None}, Schema, "a", rules=value)

    def test_elements_that_are_no_rules(self):
        wrong = odd_values() + [
            (), ("a",), ("a", All(), All()), ("c", All()), ("a", Reaches("c")), ("a", All(Any(Way("b", "c")))),
            ["a", All()], ("a", "all()"), (All(), "a"), ("a", Via("c", "a")), ("a", Marked("c", "x")), ("A", All()),
            ("a", All), ("a", (All(),)), ("a", None), ("a", True),
        ]
        wrong.extend([("a", value) for value in odd_values() if not isinstance(value, Condition)])
        wrong.extend([(value, All()) for value in odd_values()])
        for value in wrong:
            with self.subTest(value=value):
                self.raises(InvalidRules, {"index": 0}, Schema, "a", rules=(value,))
                self.raises(InvalidRules, {"index": 1}, Schema, "a", rules=(("a", All()), value, 5))

    def test_rules_may_name_marks_that_there_are_not(self):
        schema = Schema("a", ("a", "b"), rules=(("a", Not(Marked("b", "x"))), ("b", Not(Reaches("a")))))
        self.same([str(shape) for shape in schema.shapes("a")], ["a", "a a>b"])

    def test_twenty_rules(self):
        rules = tuple(("a", All()) for _ in range(20))
        self.same(len(Schema("a", rules=rules).rules), 20)
        self.raises(InvalidRules, {"index": None}, Schema, "a", rules=rules + (("a", All()),))
        self.raises(InvalidRules, {"index": None}, Schema, "a", rules=rules + (5,))
        self.raises(InvalidRules, {"index": None}, Schema, "a", rules=tuple(range(21)))
        self.raises(InvalidRules, {"index": 19}, Schema, "a", rules=rules[:19] + (5,))

    def test_rules_before_the_limit_of_candidates(self):
        self.raises(InvalidRules, {"index": 0}, Schema, "a", *STAR, rules=(5,))
        self.raises(InvalidMarks, {"index": 0}, Schema, "a", *STAR, marks=(5,))
        self.raises(TooMany, {"limit": 60}, Schema, "a", *STAR)

    def test_nothing_is_modified(self):
        links, marks, rules = list(CITY_LINKS), (("state", "b", "a"), ("city", "c")), ROWS
        Schema("city", *links, marks=marks, rules=rules)
        self.same([links, marks, rules], [list(CITY_LINKS), (("state", "b", "a"), ("city", "c")), ROWS])


class LimitTest(Case):
    def both(self, wanted, base, links, marks=(), trees=()):
        """Check the limit of 60 candidates for the class and for the text."""
        rules = tuple((level, model.condition_of(tree)) for level, tree in trees)
        lines = ["base " + base] + [f"link {lower} {upper}" for lower, upper in sorted(links)]
        lines.extend("marks " + " ".join((row[0], *sorted(row[1:]))) for row in sorted(marks))
        text = "\n".join(lines + [f"rule {level} {model.text_of(tree)}" for level, tree in trees])
        if wanted:
            self.assertEqual(str(Schema(base, *links, marks=marks, rules=rules)), text)
            self.assertEqual(str(Schema.read(text)), text)
        else:
            self.raises(TooMany, {"limit": 60}, Schema, base, *links, marks=marks, rules=rules)
            self.raises(TooMany, {"limit": 60}, Schema.read, text)
            self.raises(InvalidText, {"value": text + "\n"}, Schema.read, text + "\n")
            swapped = text.replace(f"link {links[0][0]} ", "link  ")
            self.raises(InvalidText, {"value": swapped}, Schema.read, swapped)

    def test_exactly_sixty(self):
        # Four marks times fifteen choices: 15 = (1 + 2 marks) * (1 + 4 marks).
        links, marks = (("a", "b"), ("a", "c")), (("a", "k", "l", "m", "n"), ("b", "x", "y"), ("c", "u", "v", "w", "x"))
        self.both(True, "a", links, marks)
        self.same(len(list(Schema("a", *links, marks=marks).shapes("a"))), 60)

    def test_more_than_sixty(self):
        links, marks = (("a", "b"), ("a", "c")), (("a", "k", "l", "m", "n"), ("b", "x", "y", "z"), ("c", "u", "v", "w"))
        self.both(False, "a", links, marks)
        self.both(False, "a", STAR[:6])
        self.both(True, "a", STAR[:5])
        # 31 choices, twice: 62.
        self.both(False, "a", STAR[:5], (("a", "x", "y"),))

    def test_sixty_one(self):
        # The level b has 60 candidates, so a has 61: without a link, or with one to each of them.
        links = (("b", "c"), ("b", "d"))
        marks = (("b", "k", "l", "m", "n"), ("c", "x", "y"), ("d", "u", "v", "w", "x"))
        self.both(True, "b", links, marks)
        self.both(False, "a", links + (("a", "b"),), marks)
        self.both(True, "a", links + (("a", "b"),), marks, [("b", ("not", ("marked", "b", "k")))])

    def test_rules_of_the_level_itself_do_not_help(self):
        self.both(False, "a", STAR, (), [("a", ("any",))])
        self.both(False, "a", STAR, (), one_way(STAR))
        self.both(False, "z", STAR[:6] + (("z", "a"),), (), [("a", ("any",)), ("z", ("any",))])

    def test_rules_of_the_levels_above_help(self):
        trees = [(f"u{at}", ("any",)) for at in range(2, 7)]
        self.both(True, "a", STAR, (), trees)
        self.both(True, "a", STAR, (), trees[1:])
        self.both(True, "a", STAR, (), trees[:3])
        self.both(True, "a", STAR, (), trees[:2])
        self.both(False, "a", STAR, (), trees[:1])

    def test_far_more_than_sixty(self):
        self.both(False, "l0", FOURTEEN, tuple((f"l{at}", "w", "x", "y", "z") for at in range(8)))


class ReadTest(Case):
    def test_good_texts(self):
        for text in TEXTS:
            with self.subTest(text):
                schema = Schema.read(text)
                self.same(str(schema), text)
                self.assertTrue(schema == Schema.read(text=text))
                made = Schema(schema.base, *schema.links, marks=schema.marks, rules=schema.rules)
                self.assertTrue(schema == made)

    def test_the_same_as_made(self):
        schema, made = Schema.read(CITY_TEXT), Schema("city", *CITY_LINKS, rules=ROWS)
        self.assertTrue(schema == made)
        self.assertEqual([schema.base, schema.levels, schema.links, schema.marks, schema.rules],
                         [made.base, made.levels, made.links, made.marks, made.rules])
        for level in schema.levels:
            self.assertEqual(list(schema.shapes(level)), list(made.shapes(level)))

    def check_near(self, text):
        """Check that a text is either read as itself or not at all."""
        try:
            schema = Schema.read(text)
        except InvalidText as error:
            self.assertIs(type(error), InvalidText)
            self.assertIs(error.value, text)
        else:
            self.assertEqual(str(schema), text)

    def test_texts_that_are_nearly_right(self):
        for text in TEXTS:
            for other in near_texts(text, " \na,A(") + near_rows(text, "\n") + near_rows(text, " "):
                self.check_near(other)

    def test_wrong_texts(self):
        for text in (
            "", " ", "base", "base ", "base a b", "base A", " base a", "base a ", "base  a", "base a\n", "\nbase a",
            "a", "base: a", "Base a", "base a\n\nlink a b", "base a\nlink a b\n", "link a b", "link a b\nbase a",
            "base a\nbase a", "base a\nbase b", "base a\nlink a", "base a\nlink a b c", "base a\nlink a a",
            "base a\nlink b c", "base a\nlink a  b", "base a\n link a b", "base a\nlink a b ", "base a\nlinks a b",
            "base a\nlink a c\nlink a b", "base a\nlink a b\nlink a b", "base a\nlink a b\nlink b a",
            "base a\nlink a>b", "base a\nmarks a", "base a\nmarks", "base a\nmarks b x", "base a\nmarks a y x",
            "base a\nmarks a x x", "base a\nmarks a v w x y z", "base a\nmarks a x\nmarks a y", "base a\nmarks a X",
            "base a\nmark a x", "base a\nmarks a x,y", "base a\nlink a b\nmarks b x\nmarks a x",
            "base a\nmarks a x\nlink a b", "base a\nrule a", "base a\nrule", "base a\nrule a all( )",
            "base a\nrule b all()", "base a\nrule a reaches(b)", "base a\nrule a all()\nmarks a x",
            "base a\nrule a all()\nlink a b", "base a\nrule a  all()", "base a\nrule a all() ", "base a\nrules a all()",
            "base a\nrule all()", "base a\nrule a all(reaches(a),reaches(a))", "base a\nrule a way()",
            "base a\nrule a " + "not(" * 6 + "all()" + ")" * 6, "base a\nrule a all(" + ", ".join(["all()"] * 60) + ")",
            "base a" + "\nrule a all()" * 21, "base l0" + "".join(f"\nlink l{at} l{at + 1}" for at in range(8)),
            "base a, link a b", "base a\tlink a b", "base a;link a b", "base a\r\nlink a b",
        ):
            with self.subTest(text):
                self.raises(InvalidText, {"value": text}, Schema.read, text)
                self.raises(InvalidText, {"value": text}, Schema.read, text=text)

    def test_fifteen_links(self):
        for links in (FOURTEEN, FIFTEEN):
            text = "\n".join(["base l0"] + [f"link {lower} {upper}" for lower, upper in sorted(links)]
                             + [f"rule {level} {model.text_of(tree)}" for level, tree in one_way(FOURTEEN)])
            if links == FOURTEEN:
                self.same(str(Schema.read(text)), text)
            else:
                self.raises(InvalidText, {"value": text}, Schema.read, text)

    def test_too_many_only_if_nothing_else_is_wrong(self):
        text = "base a\n" + "\n".join(f"link {lower} {upper}" for lower, upper in STAR)
        self.raises(TooMany, {"limit": 60}, Schema.read, text)
        self.raises(TooMany, {"limit": 60}, Schema.read, text + "\nrule a any()")
        for other in near_rows(text, "\n") + [text + "\nrule a way()", text + "\nmarks b x", text + "\nmarks a y x",
                                              text + "\n", text + "\nrule a any() ", text + "\nrule a any()" * 21]:
            if other.count("link") == 7:
                self.raises(InvalidText, {"value": other}, Schema.read, other)

    def test_values_that_are_no_texts(self):
        for value in odd_values() + [Schema("a"), b"base a", ["base a"], ("base a",)]:
            with self.subTest(value=value):
                self.raises(InvalidText, {"value": value}, Schema.read, value)


class QuestionTest(Case):
    SCHEMA = Schema(
        "a", ("a", "b"), ("a", "c"), ("b", "c"), ("c", "d"), marks=(("c", "y", "x"), ("a", "m")),
        rules=(("b", Reaches("c")), ("a", Reaches("c"))),
    )

    def test_above(self):
        schema = self.SCHEMA
        self.same([schema.above("a"), schema.above("b"), schema.above(level="c"), schema.above("d")],
                  [("b", "c"), ("c",), ("d",), ()])

    def test_marks_of(self):
        schema = self.SCHEMA
        self.same([schema.marks_of("a"), schema.marks_of("b"), schema.marks_of(level="c"), schema.marks_of("d")],
                  [("m",), (), ("x", "y"), ()])

    def test_values_that_are_no_levels(self):
        for value in odd_values() + ["z", "x", "m", "A", "aa", "a "]:
            with self.subTest(value=value):
                fields = {"value": value}
                self.raises(InvalidLevel, fields, self.SCHEMA.above, value)
                self.raises(InvalidLevel, fields, self.SCHEMA.marks_of, value)
                self.raises(InvalidLevel, fields, self.SCHEMA.marks_of, level=value)
                self.raises(InvalidLevel, fields, lambda: next(iter(self.SCHEMA.shapes(value))))
                self.raises(InvalidLevel, fields, lambda: list(self.SCHEMA.shapes(level=value)))
                self.raises(InvalidLevel, fields, self.SCHEMA.with_rule, value, All())
                self.raises(InvalidLevel, fields, self.SCHEMA.with_rule, value, "no condition")

    def test_values_that_are_no_shapes(self):
        for value in odd_values() + ["a", "c c=x", None]:
            if isinstance(value, Shape):
                continue
            with self.subTest(value=value):
                self.raises(NotAShape, {"value": value}, self.SCHEMA.fits, value)
                self.raises(NotAShape, {"value": value}, self.SCHEMA.fits, shape=value)
                self.raises(NotAShape, {"value": value}, self.SCHEMA.allows, value)
                self.raises(NotAShape, {"value": value}, self.SCHEMA.allows, shape=value)

    def test_values_that_are_no_conditions(self):
        for value in odd_values() + ["all()", All]:
            if isinstance(value, Condition):
                continue
            with self.subTest(value=value):
                self.raises(NotACondition, {"value": value}, self.SCHEMA.with_rule, "a", value)
                self.raises(NotACondition, {"value": value}, self.SCHEMA.with_rule, condition=value, level="a")

    def test_shapes(self):
        found = {level: [str(shape) for shape in self.SCHEMA.shapes(level)] for level in self.SCHEMA.levels}
        self.same(found["d"], ["d"])
        self.same(found["c"], ["c c=x", "c c=y", "c c>d c=x", "c c>d c=y"])
        self.same(found["b"], ["b b>c c=x", "b b>c c=y", "b b>c c>d c=x", "b b>c c>d c=y"])
        self.same(len(found["a"]), 12)
        self.same([text for text in found["a"] if "a>b" in text and "a>c" in text],
                  ["a a>b a>c b>c a=m c=x", "a a>b a>c b>c a=m c=y", "a a>b a>c b>c c>d a=m c=x",
                   "a a>b a>c b>c c>d a=m c=y"])
        self.same(found["a"], sorted(found["a"]))

    def test_shapes_is_a_generator(self):
        rows = self.SCHEMA.shapes("d")
        self.assertIs(iter(rows), rows)
        self.assertEqual(str(next(rows)), "d")
        self.assertIsNone(next(rows, None))

    def test_fits_and_allows(self):
        for text, fits, allows in (
            ("d", True, True), ("c c=x", True, True), ("c c>d c=y", True, True), ("c", False, False),
            ("c c=z", False, False), ("c c>d", False, False), ("c c>d c=x d=x", False, False), ("b", True, False),
            ("b b>c c=x", True, True), ("b b>c", False, False), ("b b>d", False, False), ("b b=x", False, False),
            ("a a=m", True, False), ("a", False, False), ("a a>c a=m c=x", True, True), ("a a>b a=m", True, False),
            ("a a>b a>c a=m c=x", True, False), ("a a>b b>c a=m c=x", True, True), ("a a>c c=x", False, False),
            ("e", False, False), ("a a>e a=m", False, False), ("d d>e", False, False), ("c c>a a=m c=x", False, False),
            ("d d=x", False, False), ("a a>b b>c c>d a=m c=y", True, True), ("a a>c c>d a=n c=y", False, False),
        ):
            with self.subTest(text):
                shape = Shape.read(text)
                self.assertIs(self.SCHEMA.fits(shape), fits)
                self.assertIs(self.SCHEMA.allows(shape=shape), allows)
                self.assertIs(self.SCHEMA.allows(shape), allows)
                self.assertIs(self.SCHEMA.fits(shape=shape), fits)

    def test_with_rule(self):
        schema = Schema("a", ("a", "b"), ("b", "c"), marks=(("b", "x"),), rules=(("a", Reaches("b")),))
        before = str(schema)
        more = schema.with_rule("b", ~Reaches("c"))
        self.same(str(more), before + "\nrule b not(reaches(c))")
        self.assertEqual(more, schema.with_rule(condition=~Reaches("c"), level="b"))
        self.same([str(shape) for shape in more.shapes("a")], ["a a>b b=x"])
        self.same([str(schema), len(schema.rules), len(list(schema.shapes("a")))], [before, 1, 2])
        self.same([len(list(more.with_rule("a", Any()).shapes(level))) for level in "abc"], [0, 1, 1])

    def test_with_rule_that_names_other_levels(self):
        for condition in (Reaches("z"), Way("b", "z"), Via("z", "a"), Marked("z", "x"), Not(All(Reaches("z")))):
            self.raises(InvalidRules, {"index": None}, self.SCHEMA.with_rule, "a", condition)
        self.assertEqual(len(self.SCHEMA.with_rule("a", Marked("b", "z")).rules), 3)

    def test_with_more_than_twenty_rules(self):
        schema = Schema("a", rules=tuple(("a", All()) for _ in range(19)))
        full = schema.with_rule("a", All())
        self.same(len(full.rules), 20)
        self.raises(InvalidRules, {"index": None}, full.with_rule, "a", All())
        self.raises(InvalidRules, {"index": None}, full.with_rule, "a", Reaches("z"))
        self.raises(InvalidLevel, {"value": "b"}, full.with_rule, "b", All())
        self.raises(NotACondition, {"value": 5}, full.with_rule, "a", 5)

    def test_equality(self):
        schemas = [Schema.read(text) for text in TEXTS]
        for first, second in itertools.product(schemas, schemas):
            self.assertIs(first == second, str(first) == str(second))
            self.assertIs(first != second, str(first) != str(second))
        rules = (("a", All()), ("a", Any()))
        self.assertIs(Schema("a", rules=rules) == Schema("a", rules=rules[::-1]), False)
        self.assertIs(Schema("a", marks=(("a", "x", "y"),)) == Schema("a", marks=(("a", "y", "x"),)), True)

    def test_never_equal_to_another_class(self):
        for text in TEXTS:
            schema = Schema.read(text)
            for value in odd_values() + [text, repr(schema), schema.rules, Shape("a")]:
                if isinstance(value, Schema):
                    continue
                self.assertIs(schema == value, False)
                self.assertIs(schema != value, True)

    def test_repr_and_truth(self):
        self.same([repr(Schema("a")), repr(Schema("a", ("a", "b"), rules=(("a", All()),)))],
                  ["Schema(1 levels, 0 rules)", "Schema(2 levels, 1 rules)"])
        self.assertIs(bool(Schema("a", rules=(("a", Any()),))), True)
        self.same(f"{Schema('a')}", "base a")

    def test_properties_cannot_be_assigned(self):
        for name in ("base", "levels", "links", "marks", "rules"):
            with self.assertRaises(AttributeError):
                setattr(self.SCHEMA, name, ())


class AllowedTest(Case):
    def compare(self, base, links, marks, trees):
        """Compare the shapes of all levels with those that are counted out; return the most candidates of a level."""
        rows = tuple((level, *marks[level]) for level in marks)
        counted = model.counted_out(base, links, marks, trees)
        most = max(len(counted[level][0]) for level in counted)
        if most > 60:
            self.raises(TooMany, {"limit": 60}, limited, base, links, rows, trees)
            return most
        schema = limited(base, links, rows, trees)
        self.same(schema.levels, tuple(sorted(counted)))
        for level in schema.levels:
            self.same([str(shape) for shape in schema.shapes(level)], counted[level][1])
            for plain in model.plain_shapes(level, links, marks)[:200]:
                shape = model.shape_of(plain)
                self.assertIs(schema.fits(shape), True)
                self.assertIs(schema.allows(shape), str(shape) in counted[level][1])
        return most

    def test_small_schemas(self):
        chance = random.Random(11)
        seen = []
        for _ in range(400):
            links = model.random_links(chance, "abcdef"[:chance.randint(1, 6)], chance.randint(0, 6))
            levels = sorted(model.above(links, "a"))
            marks = {level: ["x", "y", "z"][:chance.randint(1, 3)] for level in levels if chance.random() < 0.3}
            trees = [(chance.choice(levels), model.random_tree(chance, levels, "xyz", chance.randint(1, 3)))
                     for _ in range(chance.randint(0, 4))]
            seen.append(self.compare("a", links, marks, trees))
        self.assertTrue(any(most > 60 for most in seen) and sum(most < 60 for most in seen) > 200)

    def test_many_kinds_of_rules(self):
        chance = random.Random(12)
        links = (("a", "b"), ("a", "c"), ("b", "d"), ("c", "d"), ("a", "d"))
        for _ in range(150):
            trees = [(chance.choice("abcd"), model.random_tree(chance, "abcd", "xy", 4)) for _ in range(3)]
            if all(model.parts_of(tree) <= 60 for _, tree in trees):
                self.compare("a", links, {"d": ["x", "y"]}, trees)

    def test_eight_levels_and_fourteen_links(self):
        self.same(self.compare("l0", FOURTEEN, {}, one_way(FOURTEEN)), 53)
        trees = [("l5", ("way", "l6"))] + one_way(FOURTEEN)
        self.same(self.compare("l0", FOURTEEN, {"l7": ["x"]}, trees), 36)
        self.assertTrue(self.compare("l0", FOURTEEN, {}, one_way(FOURTEEN)[2:]) > 60)
        self.assertTrue(self.compare("l0", FOURTEEN, {}, []) > 60)

    def test_eight_levels_with_a_middle(self):
        links = (("a", "b"), ("a", "c"), ("a", "d"), ("b", "e"), ("c", "e"), ("d", "e"), ("b", "f"), ("c", "f"),
                 ("d", "f"), ("e", "g"), ("f", "g"), ("g", "h"), ("e", "h"), ("f", "h"))
        trees = one_way(links)[1:]
        self.assertTrue(self.compare("a", links, {}, trees) > 60)
        trees.append(("e", ("way", "g")))
        trees.append(("f", ("way", "g")))
        self.same(self.compare("a", links, {}, trees), 27)

    def test_impossible_levels(self):
        schema = limited("a", (("a", "b"), ("b", "c"), ("a", "c")), trees=[("b", ("any",))])
        self.same([[str(shape) for shape in schema.shapes(level)] for level in "abc"],
                  [["a", "a a>c"], [], ["c"]])
        schema = limited("a", (("a", "b"),), trees=[("a", ("reaches", "b")), ("b", ("not", ("all",)))])
        self.same([list(schema.shapes("a")), list(schema.shapes("b"))], [[], []])


if __name__ == "__main__":
    unittest.main()
