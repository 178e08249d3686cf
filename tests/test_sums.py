"""Formulas: which there are, what their rows are, what they answer; and what is determined."""

import itertools
import unittest
from math import gcd

from raggedtotals.cellshapes import passing, texts_of
from raggedtotals.conditions import All, One, Reaches, Way
from raggedtotals.cubes import Cube
from raggedtotals.datasets import Dataset
from raggedtotals.errors import (
    InvalidCell, InvalidMeasure, InvalidStored, InvalidView, NotACube, NotADataset, OtherCube, TooMany,
)
from raggedtotals.hierarchies import Hierarchy, example_of
from raggedtotals.schemas import Schema
from raggedtotals.shapes import Shape
from raggedtotals.sums import Formula, find_formula, is_determined
from tests import places, sights
from tests.helpers import Case, odd_values
from tests.places import Sly

METRO = Schema.read(
    "base city\nlink city metro\nlink city state\nlink city zone\nlink metro country\nlink state country\n"
    "link zone country\nrule city any(reaches(state), reaches(zone))\n"
    "rule city one(not(reaches(metro)), all(reaches(state), reaches(zone)))\nrule metro reaches(country)\n"
    "rule state reaches(country)\nrule zone reaches(country)"
)
CUBE = Cube(METRO)
COUNTRY = ("country",)
THREE = (("state",), ("zone",), ("metro",))
LAND = Hierarchy(
    METRO, ("jp", "country", None, ()), ("st", "state", None, ("jp",)), ("zo", "zone", None, ("jp",)),
    ("me", "metro", None, ("jp",)), ("edo", "city", None, ("st", "zo", "me")), ("oki", "city", None, ("st",)),
    ("ube", "city", None, ("zo",)), ("us", "country", None, ()), ("tx", "state", None, ("us",)),
    ("waco", "city", None, ("tx",)),
)
SALES = Dataset(LAND, facts=((("edo",), 5), (("oki",), 7), (("ube",), 11), (("waco",), 100)))
SIXTY = Schema("a", ("a", "b"), ("a", "c"),
               marks=(("a", "k", "l", "m", "n"), ("b", "x", "y"), ("c", "u", "v", "w", "x")))


def wide(count):
    """A schema whose base has so many shapes, for a product of at most four numbers from 2 to 5."""
    pieces = []
    for size in (5, 4, 3, 2):
        while count % size == 0 and count > 1:
            pieces.append(size)
            count //= size
    links = tuple(("a", f"u{at}") for at in range(len(pieces)))
    marks = tuple((f"u{at}", *"wxyz"[:size - 1]) for at, size in enumerate(pieces))
    return Schema("a", *links, marks=marks)


class SumsCase(Case):
    def check_question(self, chance, cube, wanted, stored):
        """Check all answers for views; return whether the totals are determined."""
        formula = find_formula(cube, wanted, stored)
        wished = sights.has_formula(cube, wanted, stored)
        self.assertIs(formula is not None, wished)
        self.assertIs(is_determined(cube, wanted, stored), wished)
        self.assertIs(is_determined(stored=stored, cube=cube, measure="total", wanted=wanted), wished)
        if wished:
            self.check_formula(cube, wanted, stored, formula)
            self.check_answers(chance, formula)
        else:
            self.check_spot(cube, wanted, stored)
        self.check_measures(chance, cube, wanted, stored)
        return wished

    def check_formula(self, cube, wanted, stored, formula):
        """Check the rows of a formula by the words of the document."""
        self.assertIs(type(formula), Formula)
        self.assertEqual((formula.cube, formula.wanted, formula.stored), (cube, wanted, stored))
        groups = sights.groups(cube, wanted)
        self.assertIs(type(formula.rows), tuple)
        self.assertEqual([sights.texts(sights.plain_cell(shapes)) for shapes, _ in formula.rows], sorted(groups))
        self.same([len(formula), repr(formula)], [len(groups), f"Formula({len(groups)} rows)"])
        for shapes, terms in formula.rows:
            self.check_terms(groups[sights.texts(sights.plain_cell(shapes))], wanted, stored, terms)

    def check_terms(self, group, wanted, stored, terms):
        """Check the terms of a row for a part that these base cell shapes have."""
        self.assertIs(type(terms), tuple)
        seen = [sights.seen_by(plains, wanted, stored) for plains in group]
        keys = []
        for term in terms:
            self.assertEqual([type(item) for item in term], [int, tuple, int, int])
            index, shapes, numerator, denominator = term
            self.assertTrue(numerator != 0 and denominator >= 1 and gcd(numerator, denominator) == 1)
            keys.append((index, sights.texts(sights.plain_cell(shapes))))
            self.assertTrue(any(keys[-1] in row for row in seen))
        self.assertEqual(keys, sorted(set(keys)))
        weights = {key: sights.Fraction(*term[2:]) for key, term in zip(keys, terms)}
        for row in seen:
            self.assertEqual(sum(weights.get(key, 0) for key in row), 1)

    def check_answers(self, chance, formula):
        """Check what a formula says of a dataset of its cube, for all cells of the wanted view."""
        schemas = formula.cube.schemas
        hierarchies = [places.random_entries(chance, schema, chance.randint(1, 8 - 2 * len(schemas)))
                       for schema in schemas]
        facts = places.random_facts(chance, hierarchies, formula.cube.base, 8)
        made = [Hierarchy(Schema.read(str(schema)), *entries) for schema, entries in zip(schemas, hierarchies)]
        dataset = Dataset(*made, facts=facts)
        rows = {sights.texts(sights.plain_cell(shapes)): terms for shapes, terms in formula.rows}
        cells = places.cells_of(hierarchies, formula.wanted)
        for cell in chance.sample(cells, min(len(cells), 5)):
            answer = formula.answer(dataset, cell)
            self.same(answer, sum(places.amounts_in(hierarchies, facts, cell)))
            shapes = sights.texts(sights.plain_cell(dataset.cell_shape(formula.wanted, cell)))
            used = self.used_cells(hierarchies, dataset, formula, cell, rows.get(shapes, ()))
            self.same(formula.used(dataset, cell), tuple(used))
            total = sum(sights.Fraction(*row[2:]) * dataset.total(formula.stored[row[0]], row[1]) for row in used)
            self.assertEqual(total, answer)
            self.same([formula.answer(cell=cell, dataset=dataset), formula.used(cell=cell, dataset=dataset)],
                      [answer, tuple(used)])

    def used_cells(self, hierarchies, dataset, formula, cell, terms):
        """The ascending list of what is used for a cell, looked for among all stored cells."""
        weights = {(index, sights.texts(sights.plain_cell(shapes))): weight for index, shapes, *weight in terms}
        found = []
        for index, view in enumerate(formula.stored):
            for lower in places.cells_of(hierarchies, view):
                key = index, sights.texts(sights.plain_cell(dataset.cell_shape(view, lower)))
                if key in weights and places.goes_into(hierarchies, lower, cell):
                    found.append((index, lower, *weights[key]))
        return sorted(found)

    def check_spot(self, cube, wanted, stored):
        """Check that two datasets show that totals are not determined, made as the document says."""
        for group in sights.groups(cube, wanted).values():
            rows = sights.matrix(group, wanted, stored)
            values = sights.kernel_value(rows, [1] * len(group))
            if values is not None:
                break
        first, second, cell = self.spot(cube, wanted, group, values)
        for view in stored:
            self.assertEqual(first.table(view), second.table(view))
        self.assertNotEqual(first.total(wanted, cell), second.total(wanted, cell))

    def spot(self, cube, wanted, group, values):
        """The datasets of the positive and of the negative facts of these values, and the cell of first copies."""
        texts = [sights.texts(plains) for plains in group]
        shapes = [[Shape.read(text) for text in column] for column in zip(*texts)]
        made = [places.spot_hierarchy(column, level) for column, level in zip(shapes, wanted)]
        names = [row[1] for row in made]
        facts = [fact for fact in places.spot_facts(values, names, texts) if fact[1]]
        hierarchies = [Hierarchy(schema, *row[0]) for schema, row in zip(cube.schemas, made)]
        part = sights.texts(sights.part(group[0], wanted))
        cell = tuple("*" if text == "*" else found[text][0] for found, text in zip(names, part))
        first = Dataset(*hierarchies, facts=tuple(fact for fact in facts if fact[1] > 0))
        second = Dataset(*hierarchies, facts=tuple((place, -amount) for place, amount in facts if amount < 0))
        return first, second, cell

    def check_measures(self, chance, cube, wanted, stored):
        """Check whether greatest and least are determined, and by datasets that it is so."""
        blind = [plains for group in sights.groups(cube, wanted).values() for plains in group
                 if not sights.seen_by(plains, wanted, stored)]
        for measure in ("greatest", "least"):
            self.assertIs(is_determined(cube, wanted, stored, measure=measure), not blind)
        if not blind:
            return
        # Facts with 1 at some copies and 0 at the others, and the other way about.
        first, second, cell = self.spot(cube, wanted, [blind[0]], [1])
        facts = [[(place, 1) for place, _ in one.facts] + [(place, 0) for place, _ in other.facts]
                 for one, other in ((first, second), (second, first))]
        first, second = [first.with_facts(tuple(row)) for row in facts]
        for view, name in itertools.product(stored, ("greatest", "least")):
            for place in first.cells(view):
                self.assertEqual(getattr(first, name)(view, place), getattr(second, name)(view, place))
        for name in ("greatest", "least"):
            self.assertNotEqual(getattr(first, name)(wanted, cell), getattr(second, name)(wanted, cell))


class ExampleTest(Case):
    def test_first(self):
        formula = find_formula(CUBE, COUNTRY, THREE)
        shapes, terms = formula.rows[0]
        found = [
            len(list(METRO.shapes("city"))), str(shapes[0]), len(terms), str(terms[0][1][0]), terms[0][2:],
            str(terms[2][1][0]), terms[2][2:], repr(formula),
        ]
        self.same(found, [3, "country", 3, "state state>country", (1, 1), "metro metro>country", (-1, 1),
                          "Formula(1 rows)"])

    def test_second(self):
        two = THREE[:2]
        found = [
            find_formula(CUBE, COUNTRY, two), is_determined(CUBE, COUNTRY, two, measure="greatest"),
            is_determined(CUBE, COUNTRY, (("city",),)), is_determined(CUBE, ("*",), (COUNTRY,)),
            is_determined(CUBE, COUNTRY, (("*",),)), len(find_formula(CUBE, ("metro",), (("metro",),))),
        ]
        self.same(found, [None, True, True, True, False, 1])


class FormulaTest(Case):
    FORMULA = find_formula(CUBE, COUNTRY, THREE)

    def test_answers(self):
        self.same([self.FORMULA.answer(SALES, ("jp",)), self.FORMULA.answer(SALES, ("us",))], [23, 100])
        self.same(self.FORMULA.used(SALES, ("jp",)), ((0, ("st",), 1, 1), (1, ("zo",), 1, 1), (2, ("me",), -1, 1)))
        self.same(self.FORMULA.used(cell=("us",), dataset=SALES), ((0, ("tx",), 1, 1),))

    def test_no_facts(self):
        empty = SALES.with_facts(())
        self.same([self.FORMULA.answer(empty, ("jp",)), len(self.FORMULA.used(empty, ("jp",)))], [0, 3])

    def test_amounts_of_any_size_and_sign(self):
        top = 10 ** 60 - 1
        dataset = SALES.with_facts(((("edo",), top), (("oki",), -top), (("ube",), -top), (("waco",), 0)))
        self.same([self.FORMULA.answer(dataset, ("jp",)), self.FORMULA.answer(dataset, ("us",))], [-top, 0])

    def test_fractions(self):
        # Each member of the base counts for exactly two of the three views, so each total has the weight 1/2.
        two = (Way("b") & Way("c")) | (Way("b") & Way("d")) | (Way("c") & Way("d"))
        schema = Schema("a", ("a", "b"), ("a", "c"), ("a", "d"),
                        rules=(("a", two), ("a", ~All(Way("b"), Way("c"), Way("d")))))
        self.same(len(list(schema.shapes("a"))), 3)
        formula = find_formula(Cube(schema), ("*",), (("b",), ("c",), ("d",)))
        self.same([term[2:] for term in formula.rows[0][1]], [(1, 2)] * 3)
        hierarchy = Hierarchy(schema, ("b", "b", None, ()), ("c", "c", None, ()), ("d", "d", None, ()),
                              ("x", "a", None, ("b", "c")), ("y", "a", None, ("b", "d")), ("z", "a", None, ("c", "d")))
        dataset = Dataset(hierarchy, facts=((("x",), 3), (("y",), -8), (("z",), 10 ** 59)))
        self.same(formula.answer(dataset, ("*",)), 10 ** 59 - 5)
        self.same(formula.used(dataset, ("*",)), ((0, ("b",), 1, 2), (1, ("c",), 1, 2), (2, ("d",), 1, 2)))
        self.same(formula.answer(dataset.with_facts(((("x",), 1),)), ("*",)), 1)

    def test_a_term_for_each_shape(self):
        # Each mark of the state makes a shape, and so a term, of its own.
        schema = Schema("city", ("city", "state"), ("city", "zone"), rules=(("city", One(Way("state"), Way("zone"))),),
                        marks=(("state", "old", "new"),))
        formula = find_formula(Cube(schema), ("*",), (("state",), ("zone",)))
        self.same([(term[0], str(term[1][0]), *term[2:]) for term in formula.rows[0][1]],
                  [(0, "state state=new", 1, 1), (0, "state state=old", 1, 1), (1, "zone", 1, 1)])

    def test_rows_and_terms_stand_in_the_order_of_texts(self):
        schema = Schema("m", ("m", "b"), ("b", "a"), ("b", "a1"))
        cube = Cube(schema, Schema("m", ("m", "a")))
        # The texts of base shapes have another order than those of their parts.
        self.same([str(shapes[0]) for shapes in passing(cube, ("b", "a"))],
                  ["m b>a b>a1 m>b", "m b>a m>b", "m b>a1 m>b", "m m>b"])
        formula = find_formula(cube, ("b", "*"), (("m", "m"), ("b", "m"), ("b", "*")))
        texts = [texts_of(cube, shapes) for shapes, _ in formula.rows]
        self.same(texts, [("b", "*"), ("b b>a", "*"), ("b b>a b>a1", "*"), ("b b>a1", "*")])
        for _, terms in formula.rows:
            keys = [(term[0], texts_of(cube, term[1])) for term in terms]
            self.same(keys, sorted(keys))

    def test_a_wanted_view_that_nothing_passes(self):
        schema = Schema("a", ("a", "b"), rules=(("a", ~Reaches("b")),))
        for stored in ((), (("a",),), (("b",), ("*",))):
            formula = find_formula(Cube(schema), ("b",), stored)
            self.same([formula.rows, len(formula), bool(formula), repr(formula)], [(), 0, False, "Formula(0 rows)"])
            dataset = Dataset(Hierarchy(schema, ("x", "b", None, ()), ("y", "a", None, ())), facts=((("y",), 4),))
            self.same([formula.answer(dataset, ("x",)), formula.used(dataset, ("x",))], [0, ()])
            self.assertIs(is_determined(Cube(schema), ("b",), stored, measure="least"), True)

    def test_a_cell_without_a_row(self):
        schema = Schema("a", ("a", "b"), ("b", "c"), rules=(("a", ~Reaches("c")),))
        formula = find_formula(Cube(schema), ("b",), (("b",),))
        hierarchy = Hierarchy(schema, ("c", "c", None, ()), ("b", "b", None, ("c",)), ("d", "b", None, ()),
                              ("a", "a", None, ("d",)))
        dataset = Dataset(hierarchy, facts=((("a",), 4),))
        self.same([[str(shapes[0]) for shapes, _ in formula.rows], formula.answer(dataset, ("b",)),
                   formula.used(dataset, ("b",)), formula.answer(dataset, ("d",))], [["b"], 0, (), 4])

    def test_no_stored_views(self):
        self.assertIsNone(find_formula(CUBE, COUNTRY, ()))
        for measure in ("total", "greatest", "least"):
            self.assertIs(is_determined(CUBE, COUNTRY, (), measure=measure), False)

    def test_equal_stored_views(self):
        formula = find_formula(CUBE, COUNTRY, (COUNTRY, COUNTRY))
        self.same([formula.answer(SALES, ("jp",)), formula.stored], [23, (COUNTRY, COUNTRY)])
        self.same(len(find_formula(CUBE, ("*",), (COUNTRY,) * 10)), 1)

    def test_more_than_one_dimension(self):
        goods = Schema("item", ("item", "kind"), rules=(("item", Reaches("kind")),))
        cube = Cube(goods, METRO)
        items = Hierarchy(goods, ("k", "kind", None, ()), ("i", "item", None, ("k",)), ("j", "item", None, ("k",)))
        dataset = Dataset(items, LAND, facts=((("i", "edo"), 3), (("j", "edo"), 4), (("j", "oki"), 9)))
        stored = (("item", "state"), ("kind", "zone"), ("item", "metro"))
        formula = find_formula(cube, ("*", "country"), stored)
        self.same(formula.answer(dataset, ("*", "jp")), 16)
        self.same(formula.used(dataset, ("*", "jp")), (
            (0, ("i", "st"), 1, 1), (0, ("j", "st"), 1, 1), (1, ("k", "zo"), 1, 1), (2, ("i", "me"), -1, 1),
            (2, ("j", "me"), -1, 1)))
        self.assertIsNone(find_formula(cube, ("item", "country"), stored))
        self.assertIs(is_determined(cube, ("item", "*"), stored), False)
        self.assertIs(is_determined(cube, ("kind", "country"), stored), True)

    def test_equal_to_itself_alone(self):
        other = find_formula(CUBE, COUNTRY, THREE)
        self.assertIs(self.FORMULA == other, False)
        self.assertIs(self.FORMULA != other, True)
        self.assertIs(self.FORMULA == self.FORMULA, True)
        self.same(repr(self.FORMULA.rows), repr(other.rows))
        for value in odd_values() + [self.FORMULA.rows, CUBE]:
            self.assertIs(self.FORMULA == value, False)

    def test_properties_cannot_be_assigned(self):
        for name in ("cube", "wanted", "stored", "rows"):
            with self.assertRaises(AttributeError):
                setattr(self.FORMULA, name, ())

    def test_what_is_given_stays(self):
        stored = (("state",), ("zone",), ("metro",))
        find_formula(CUBE, COUNTRY, stored).used(SALES, ("jp",))
        self.same([stored, len(SALES), len(LAND)], [THREE, 4, 10])


class WrongUseTest(Case):
    FORMULA = find_formula(CUBE, COUNTRY, THREE)

    def both(self, error, fields, dataset, cell):
        """Check the error of both methods."""
        for call in (self.FORMULA.used, self.FORMULA.answer):
            self.raises(error, fields, call, dataset, cell)
            self.raises(error, fields, call, cell=cell, dataset=dataset)

    def test_values_that_are_no_datasets(self):
        for value in odd_values() + [Sly(), LAND, SALES.facts, Dataset]:
            with self.subTest(value=value):
                self.both(NotADataset, {"value": value}, value, ("jp",))
                self.both(NotADataset, {"value": value}, value, 5)

    def test_datasets_of_other_cubes(self):
        near = METRO.with_rule("city", Reaches("city"))
        for dataset in (Dataset(LAND, LAND), Dataset(Hierarchy(near)), Dataset(Hierarchy(Schema("a")))):
            self.both(OtherCube, {}, dataset, ("jp",))
            self.both(OtherCube, {}, dataset, 5)

    def test_values_that_are_no_cells(self):
        for value in odd_values() + [Sly(), ("st",), ("*",), ["jp"], ("jp", "jp"), ("country",), (Sly(),), "jp", ()]:
            with self.subTest(value=value):
                self.both(InvalidCell, {"value": value}, SALES, value)


class WrongQuestionTest(Case):
    def both(self, error, fields, *args, **named):
        """Check the error of both functions."""
        self.raises(error, fields, find_formula, *args, **named)
        self.raises(error, fields, is_determined, *args, **named)
        self.raises(error, fields, is_determined, *args, measure="least", **named)

    def test_values_that_are_no_cubes(self):
        for value in odd_values() + [Sly(), METRO, (METRO,), SALES]:
            with self.subTest(value=value):
                self.both(NotACube, {"value": value}, value, COUNTRY, THREE)
                self.both(NotACube, {"value": value}, stored=5, wanted=5, cube=value)
                self.raises(NotACube, {"value": value}, is_determined, value, 5, 5, measure=5)

    def test_values_that_are_no_views(self):
        for value in odd_values() + [Sly(), ("citi",), ["country"], ("country", "*"), "country", (Sly(),), ("jp",)]:
            with self.subTest(value=value):
                self.both(InvalidView, {"value": value}, CUBE, value, THREE)
                self.both(InvalidView, {"value": value}, stored=5, wanted=value, cube=CUBE)
                self.raises(InvalidView, {"value": value}, is_determined, CUBE, value, 5, measure=5)

    def test_stored_views_that_are_no_tuple_or_too_many(self):
        wrong = [value for value in odd_values() if not isinstance(value, tuple)] + [
            Sly(), list(THREE), (COUNTRY,) * 11, (5,) * 11, {COUNTRY: 1}, "country", CUBE]
        for value in wrong:
            with self.subTest(value=value):
                self.both(InvalidStored, {"index": None}, CUBE, COUNTRY, value)
                self.both(InvalidStored, {"index": None}, stored=value, wanted=COUNTRY, cube=CUBE)
                self.raises(InvalidStored, {"index": None}, is_determined, CUBE, COUNTRY, value, measure=5)

    def test_elements_that_are_no_views(self):
        wrong = odd_values() + [Sly(), "country", ["country"], ("country", "*"), (), ("jp",), (Sly(),), (COUNTRY,)]
        for value in wrong:
            with self.subTest(value=value):
                self.both(InvalidStored, {"index": 0}, CUBE, COUNTRY, (value,))
                self.both(InvalidStored, {"index": 0}, CUBE, COUNTRY, (value, value))
                self.both(InvalidStored, {"index": 3}, CUBE, COUNTRY, (*THREE, value, 5))
                self.both(InvalidStored, {"index": 9}, CUBE, COUNTRY, (COUNTRY,) * 9 + (value,))
                self.raises(InvalidStored, {"index": 1}, is_determined, CUBE, COUNTRY, (COUNTRY, value), measure=5)

    def test_values_that_are_no_measures(self):
        for value in odd_values() + [Sly(), "totals", "Total", "most", ("total",), ["total"], "count", " total"]:
            with self.subTest(value=value):
                self.raises(InvalidMeasure, {"value": value}, is_determined, CUBE, COUNTRY, THREE, measure=value)
                self.raises(InvalidMeasure, {"value": value}, is_determined, measure=value, stored=(),
                            wanted=("*", "*"), cube=Cube(SIXTY, SIXTY))
        with self.assertRaises(TypeError):
            is_determined(CUBE, COUNTRY, THREE, "total")

    def test_sixty_base_cell_shapes(self):
        stored = tuple((level,) for level in ("a", "b", "c", "*", "a", "b", "c", "*", "*", "*"))
        formula = find_formula(Cube(SIXTY), ("*",), stored)
        self.same(len(formula.rows), 1)
        self.same([sum(1 for _ in SIXTY.shapes("a")), len(find_formula(Cube(SIXTY), ("a",), (("a",),)))], [60, 60])
        for sizes in ((60, 1), (10, 6), (5, 12), (3, 4, 5), (1, 1, 60), (2, 30), (15, 4)):
            cube = Cube(*[wide(size) for size in sizes])
            everything = ("*",) * len(sizes)
            self.assertIs(is_determined(cube, everything, (cube.base,)), True)
            self.assertIs(is_determined(cube, everything, (), measure="least"), False)
            self.assertIsNone(find_formula(cube, everything, ()))

    def test_more_than_sixty_base_cell_shapes(self):
        for sizes in ((8, 8), (4, 16), (2, 32), (32, 2), (4, 4, 4), (60, 2), (3, 5, 5)):
            cube = Cube(*[wide(size) for size in sizes])
            everything = ("*",) * len(sizes)
            self.both(TooMany, {"limit": 60}, cube, everything, (cube.base,))
            self.both(TooMany, {"limit": 60}, cube, everything, ())
            self.both(TooMany, {"limit": 60}, cube, cube.base, (cube.base,))
        self.both(TooMany, {"limit": 60}, Cube(SIXTY, SIXTY, SIXTY), ("*",) * 3, ())

    def test_sixty_two(self):
        # No base has 61 shapes, and 61 is no product, so 62 = 31 * 2 is the next number.
        schema, two = wide(32), wide(2)
        fewer = schema.with_rule("a", Reaches("u0") | Reaches("u1") | Reaches("u2"))
        self.same([len(list(row.shapes("a"))) for row in (schema, fewer, two)], [32, 31, 2])
        cube = Cube(fewer, two)
        self.both(TooMany, {"limit": 60}, cube, ("*", "*"), (cube.base,))
        self.assertIs(is_determined(cube, ("*", "u0"), (cube.base,)), True)

    def test_only_what_passes_the_wanted_view_counts(self):
        cube = Cube(wide(8), wide(12))
        self.both(TooMany, {"limit": 60}, cube, ("*", "*"), (cube.base,))
        self.both(TooMany, {"limit": 60}, cube, ("u0", "*"), (cube.base,))
        self.assertIs(is_determined(cube, ("u0", "u0"), (cube.base,)), True)
        self.assertIs(is_determined(cube, ("u0", "u0"), (("*", "*"),)), False)

    def test_the_order_of_errors(self):
        cube = Cube(SIXTY, SIXTY)
        self.raises(InvalidMeasure, {"value": "x"}, is_determined, cube, ("*", "*"), (), measure="x")
        self.raises(InvalidStored, {"index": 0}, is_determined, cube, ("*", "*"), (5,), measure="x")
        self.raises(InvalidView, {"value": 5}, is_determined, cube, 5, (5,), measure="x")
        self.raises(NotACube, {"value": 5}, is_determined, 5, 5, (5,), measure="x")
        self.raises(TooMany, {"limit": 60}, is_determined, cube, ("*", "*"), (), measure="greatest")


class PromiseTest(SumsCase):
    def test_formula_or_two_datasets(self):
        seen = {True: 0, False: 0}
        for chance, cube, wanted, stored in sights.random_cubes(41, 350):
            seen[self.check_question(chance, cube, wanted, stored)] += 1
        self.assertTrue(min(seen.values()) > 60, seen)

    def test_levels_by_which_others_are_seen(self):
        # Stored views at and below the wanted one, so that there are formulas with many terms.
        seen = {True: 0, False: 0}
        for chance, cube, wanted, _ in sights.random_cubes(42, 200):
            views = list(itertools.product(*[
                [level, *schema.above(level)] if level != "*" else [*schema.levels, "*"]
                for schema, level in zip(cube.schemas, wanted)]))
            lower = [view for view in itertools.product(*[(*schema.levels, "*") for schema in cube.schemas])
                     if view not in views or view == wanted and chance.random() < 0.3]
            stored = tuple(chance.sample(lower, min(len(lower), chance.randint(1, 10))))
            seen[self.check_question(chance, cube, wanted, stored)] += 1
        self.assertTrue(min(seen.values()) > 40, seen)

    def test_all_views_of_a_small_cube(self):
        chance = next(sights.random_cubes(43, 1))[0]
        views = [(level,) for level in (*METRO.levels, "*")]
        for wanted in views:
            for size in range(4):
                for stored in itertools.combinations(views, size):
                    self.check_question(chance, CUBE, wanted, stored)

    def test_greatest_and_least_of_stored_cells(self):
        # If they are determined, they are those of the stored cells that go into the cell.
        count = 0
        for chance, cube, wanted, stored in sights.random_cubes(44, 150):
            if not is_determined(cube, wanted, stored, measure="greatest"):
                continue
            hierarchies = [places.random_entries(chance, schema, 3) for schema in cube.schemas]
            dataset = Dataset(*[Hierarchy(schema, *row) for schema, row in zip(cube.schemas, hierarchies)],
                              facts=places.random_facts(chance, hierarchies, cube.base, 8))
            for cell in dataset.cells(wanted):
                below = [(view, lower) for view in stored for lower in dataset.cells(view)
                         if places.goes_into(hierarchies, lower, cell) and dataset.fact_count(view, lower)]
                self.same(dataset.greatest(wanted, cell),
                          max([dataset.greatest(view, lower) for view, lower in below], default=None))
                self.same(dataset.least(wanted, cell),
                          min([dataset.least(view, lower) for view, lower in below], default=None))
                count += 1
        self.assertTrue(count > 50, count)

    def test_formulas_in_examples_of_shapes(self):
        for _, cube, wanted, stored in sights.random_cubes(45, 80):
            formula = find_formula(cube, wanted, stored)
            if formula is None or len(cube) > 1:
                continue
            for shape in cube.schemas[0].shapes(cube.base[0]):
                dataset = Dataset(example_of(cube.schemas[0], shape), facts=((cube.base, 1),))
                for cell in dataset.cells(wanted):
                    self.same(formula.answer(dataset, cell), 1)


if __name__ == "__main__":
    unittest.main()
