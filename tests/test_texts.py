"""Reading the texts of conditions."""

import random
import unittest

from raggedtotals.conditions import All, Any, Condition, If, Marked, Not, One, Reaches, Via, Way
from raggedtotals.errors import InvalidText
from raggedtotals.texts import read_condition
from tests import model
from tests.helpers import Case, near_rows, near_texts, odd_values

TEXTS = [
    "reaches(state)", "way(city)", "way(city, state)", "way(a, b, c, d)", "via(state, country)", "via(a, a)",
    "marked(country, federal)", "not(reaches(a))", "all()", "any()", "one()", "all(reaches(a))",
    "all(reaches(a), way(b))", "any(way(a, b), via(c, d), marked(e, f))", "one(all(), any(), one())",
    "if(reaches(a), way(b))", "if(all(), not(any()))", "not(not(not(not(not(reaches(a))))))",
    "one(reaches(state), way(country))", "if(reaches(metro), any(not(way(zone)), reaches(state)))",
    "reaches(reaches)", "way(way, not, all)", "via(if, one)", "marked(marked, any)",
]


class ReadTest(Case):
    def wrong(self, *texts):
        """Check that none of these is the text of a condition."""
        for text in texts:
            with self.subTest(text):
                self.raises(InvalidText, {"value": text}, read_condition, text)
                self.raises(InvalidText, {"value": text}, read_condition, text=text)

    def test_examples(self):
        self.assertTrue(read_condition("one(reaches(state), way(country))") == One(Reaches("state"), Way("country")))
        self.same(str(read_condition("all()")), "all()")
        self.wrong("all(reaches(state),reaches(zone))")

    def test_good_texts(self):
        for text in TEXTS:
            with self.subTest(text):
                self.same(str(read_condition(text)), text)
                self.assertEqual(read_condition(text=text), read_condition(text))

    def test_the_same_as_made(self):
        for condition in (
            Reaches("a"), Way("a"), Way("a", "b", "a"), Via("a", "b"), Marked("a", "b"), Not(Reaches("a")), All(),
            Any(), One(), All(Way("a"), Via("b", "c")), Any(All(), One(Any())), One(Reaches("a")),
            If(Reaches("a"), If(Reaches("b"), Marked("c", "d"))),
        ):
            found = read_condition(str(condition))
            self.assertIs(type(found), type(condition))
            self.assertEqual(found, condition)
            self.same([found.levels, found.parts, found.depth],
                      [condition.levels, condition.parts, condition.depth])

    def test_atoms_that_are_nearly_right(self):
        self.wrong(
            "reaches()", "reaches(a, b)", "reaches(A)", "reaches( a)", "reaches(a )", "reaches (a)", " reaches(a)",
            "reaches(a) ", "reaches(a)\n", "reaches(a", "reaches a", "reaches", "reaches(a))", "reaches((a))",
            "reach(a)", "Reaches(a)", "reaches(abcdefghi)", "reaches(1a)", "reaches(reaches(a))", "reaches[a]",
            "way()", "way(a,b)", "way(a , b)", "way(a,  b)", "way(a, )", "way(, a)", "way(a, b,)", "way(way(a))",
            "way(a) way(b)", "way(a), way(b)", "via(a)", "via(a, b, c)", "via()", "via(a,b)", "marked(a)", "marked()",
            "marked(a, b, c)", "marked(a, B)", "marked(a=b)", "(a)", "()", "(reaches(a))", "", " ", "a", "*",
        )

    def test_compounds_that_are_nearly_right(self):
        self.wrong(
            "not()", "not(reaches(a), reaches(b))", "not(a)", "not", "not(", "not)", "if()", "if(reaches(a))",
            "if(reaches(a), reaches(b), reaches(c))", "if(reaches(a),reaches(b))", "if(all())", "all( )", "all(,)",
            "all(a)", "all(reaches(a),)", "all(reaches(a), )", "all(, reaches(a))", "all(reaches(a)reaches(b))",
            "all(reaches(a) reaches(b))", "all(reaches(a),  reaches(b))", "all(reaches(a) , reaches(b))",
            "all(reaches(a), reaches(b)", "all(reaches(a), reaches(b)))", "all())", "all(()", "all()()", "all() ",
            " all()", "all()\n", "all(\n)", "any(all(), one)", "any(all(, ))", "one(one(one(one())", "ALL()",
            "none()", "and(reaches(a), reaches(b))", "all(reaches(state),reaches(zone))", "not(not reaches(a))",
            "if(reaches(a), way())", "any(reaches(A))", "any(way(a, b), via(c))", "all(any(), all(), not())",
        )

    def test_sixty_parts(self):
        for word in ("all", "any", "one"):
            text = f"{word}({', '.join(['reaches(a)'] * 59)})"
            self.same(read_condition(text).parts, 60)
            self.wrong(f"{word}({', '.join(['reaches(a)'] * 60)})", f"not({text})", f"all({text}, {text})")
        self.wrong(f"all({', '.join(['reaches(a)'] * 300)})")

    def test_depth_six(self):
        for word in ("not", "all", "any", "one"):
            text = f"{word}(" * 5 + "all()" + ")" * 5
            self.same([read_condition(text).depth, read_condition(text.replace("all()", "way(a)")).depth], [6, 6])
            self.wrong(f"{word}({text})", f"{word}(" * 6 + "way(a)" + ")" * 6)
        self.wrong("if(all(), " * 6 + "all()" + ")" * 6)
        self.same(read_condition("if(all(), " * 5 + "all()" + ")" * 5).depth, 6)

    def test_many_open_brackets(self):
        for count in range(7, 51):
            for word in ("not", "all", "one", "reaches", "way", "", "a"):
                self.wrong(f"{word}(" * count, f"{word}(" * count + "all()" + ")" * count, "(" * count + ")" * count)

    def test_long_texts(self):
        self.same(len(read_condition("way(" + ", ".join(["abcdefgh"] * 390) + ")").levels), 1)
        self.wrong("a" * 4000, "all()" * 800, "reaches(" + "a" * 3900 + ")", "way(" + "a, " * 1300 + ")")

    def test_values_that_are_no_texts(self):
        for value in odd_values() + [Reaches("a"), b"all()", ("all()",), ["all()"]]:
            with self.subTest(value=value):
                self.raises(InvalidText, {"value": value}, read_condition, value)

    def test_texts_that_are_nearly_right(self):
        for text in TEXTS:
            for other in near_texts(text, " ,()aA0\n") + near_rows(text, ", ") + near_rows(text, "("):
                try:
                    condition = read_condition(other)
                except InvalidText as error:
                    self.assertIs(type(error), InvalidText)
                    self.assertIs(error.value, other)
                else:
                    self.assertIsInstance(condition, Condition)
                    self.assertEqual(str(condition), other)

    def test_every_text_of_a_condition_is_read(self):
        chance = random.Random(7)
        for _ in range(2000):
            tree = model.random_tree(chance, ["a", "b2", "abcdefgh", "all"], ["x", "not"], chance.randint(1, 7))
            text = model.text_of(tree)
            if model.parts_of(tree) > 60 or model.depth_of(tree) > 6:
                self.wrong(text)
            else:
                self.assertEqual(read_condition(text), model.condition_of(tree))


if __name__ == "__main__":
    unittest.main()
