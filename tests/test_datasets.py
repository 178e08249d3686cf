"""Datasets: facts, cells, totals and their like, tables."""

import itertools
import random
import unittest

from raggedtotals.cubes import Cube
from raggedtotals.datasets import Dataset, cell_above
from raggedtotals.errors import InvalidCell, InvalidFacts, InvalidHierarchies, InvalidView
from raggedtotals.hierarchies import Hierarchy
from raggedtotals.schemas import Schema
from tests import places
from tests.helpers import Case, odd_values
from tests.places import Sly
from tests.test_consequences import random_schemas

PLACES, GOODS = Schema("shop", ("shop", "city")), Schema("item")
SHOPS = Hierarchy(PLACES, ("ba", "city", None, ()), ("s", "shop", None, ("ba",)), ("t", "shop", None, ()))
ITEMS = Hierarchy(GOODS, ("x", "item", None, ()), ("y", "item", None, ()))
FACTS = ((("s", "x"), 5), (("s", "y"), -2), (("t", "x"), 7))
SALES = Dataset(SHOPS, ITEMS, facts=FACTS)
VIEWS = list(itertools.product(("shop", "city", "*"), ("item", "*")))


def random_datasets(seed, count):
    """Datasets with their cubes, plain hierarchies and facts."""
    chance = random.Random(seed)
    schemas = [row[1] for row in random_schemas(seed, 80) if list(row[1].shapes("a"))]
    for _ in range(count):
        chosen = [chance.choice(schemas) for _ in range(chance.randint(1, 3))]
        hierarchies = [places.random_entries(chance, schema, chance.randint(0, 9 - 2 * len(chosen)), 0.8)
                       for schema in chosen]
        cube = Cube(*chosen)
        facts = places.random_facts(chance, hierarchies, cube.base, chance.randint(0, 12))
        made = [Hierarchy(schema, *entries) for schema, entries in zip(chosen, hierarchies)]
        yield chance, Dataset(*made, facts=facts), cube, hierarchies, facts


def views_of(cube):
    """All views of a cube."""
    return list(itertools.product(*[(*schema.levels, "*") for schema in cube.schemas]))


class ExampleTest(Case):
    def test_example(self):
        dataset = SALES
        found = [
            dataset.total(("city", "*"), ("ba", "*")), dataset.total(("*", "item"), ("*", "x")),
            dataset.least(("city", "*"), ("ba", "*")), dataset.greatest(("city", "item"), ("ba", "y")),
            dataset.fact_count(("*", "*"), ("*", "*")), dataset.table(("shop", "*")),
            list(dataset.cells(("city", "item"))), dataset.cube == Cube(PLACES, GOODS),
            dataset.cube.is_view(("*", "city")), dataset.cube.base, repr(dataset),
        ]
        self.same(found, [
            3, 12, -2, -2, 3, ((("s", "*"), 3), (("t", "*"), 7)), [("ba", "x"), ("ba", "y")], True, False,
            ("shop", "item"), "Dataset(2 dimensions, 3 facts)",
        ])


class CreationTest(Case):
    def test_facts_in_any_order(self):
        for facts in itertools.permutations(FACTS):
            dataset = Dataset(SHOPS, ITEMS, facts=facts)
            self.same(dataset.facts, FACTS)
            self.assertEqual(dataset, SALES)
            self.assertEqual(dataset, Dataset(SHOPS, ITEMS).with_facts(facts))
            self.assertEqual(dataset, SALES.with_facts(facts=facts))

    def test_no_facts(self):
        for dataset in (Dataset(SHOPS, ITEMS), Dataset(SHOPS, ITEMS, facts=()), SALES.with_facts(())):
            self.same([dataset.facts, len(dataset), bool(dataset), repr(dataset)],
                      [(), 0, False, "Dataset(2 dimensions, 0 facts)"])
            for view in VIEWS:
                for cell in dataset.cells(view):
                    self.same([dataset.total(view, cell), dataset.greatest(view, cell), dataset.least(view, cell),
                               dataset.fact_count(view, cell)], [0, None, None, 0])
            self.same(dataset.table(("city", "*")), ((("ba", "*"), 0),))

    def test_one_and_three_dimensions(self):
        dataset = Dataset(ITEMS, facts=((("x",), 4),))
        self.same([repr(dataset), dataset.total(("*",), ("*",)), dataset.table(("item",))],
                  ["Dataset(1 dimensions, 1 facts)", 4, ((("x",), 4), (("y",), 0))])
        dataset = Dataset(ITEMS, ITEMS, SHOPS, facts=((("x", "y", "s"), 4), (("y", "y", "t"), 8)))
        self.same([repr(dataset), dataset.total(("*", "item", "*"), ("*", "y", "*")),
                   dataset.table(("item", "*", "city")), len(list(dataset.cells(("item", "item", "shop"))))],
                  ["Dataset(3 dimensions, 2 facts)", 12, ((("x", "*", "ba"), 4), (("y", "*", "ba"), 0)), 8])

    def test_hierarchies_and_cube(self):
        again = Schema.read(str(PLACES))
        self.assertIs(type(SALES.hierarchies), tuple)
        self.assertEqual(SALES.hierarchies, (SHOPS, ITEMS))
        self.assertIs(SALES.cube == Cube(again, GOODS), True)
        self.assertIs(SALES.cube == Cube(GOODS, PLACES), False)

    def test_amounts_of_any_size_and_sign(self):
        top = 10 ** 60 - 1
        dataset = Dataset(SHOPS, facts=((("s",), top), (("t",), -top)))
        view, cell = ("*",), ("*",)
        self.same([dataset.total(view, cell), dataset.greatest(view, cell), dataset.least(view, cell)], [0, top, -top])
        dataset = dataset.with_facts(((("s",), top), (("t",), top)))
        self.same([dataset.total(view, cell), dataset.total(("city",), ("ba",))], [2 * top, top])

    def test_facts_with_the_amount_nothing(self):
        dataset = Dataset(SHOPS, facts=((("s",), 0), (("t",), -3)))
        self.same([len(dataset), dataset.facts, dataset.fact_count(("*",), ("*",)), dataset.greatest(("*",), ("*",)),
                   dataset.greatest(("city",), ("ba",)), dataset.least(("city",), ("ba",)),
                   dataset.fact_count(("city",), ("ba",)), dataset.total(("city",), ("ba",))],
                  [2, ((("s",), 0), (("t",), -3)), 2, 0, 0, 0, 1, 0])

    def test_what_is_given_stays(self):
        facts = FACTS[::-1]
        Dataset(SHOPS, ITEMS, facts=facts).with_facts(facts[:1])
        self.same([facts, SALES.facts, repr(SHOPS)], [FACTS[::-1], FACTS, "Hierarchy(3 members)"])

    def test_properties_cannot_be_assigned(self):
        for name in ("hierarchies", "cube", "facts"):
            with self.assertRaises(AttributeError):
                setattr(SALES, name, ())
        self.assertEqual(SALES, Dataset(SHOPS, ITEMS, facts=FACTS))


class WrongCreationTest(Case):
    def test_other_numbers_of_hierarchies(self):
        self.raises(InvalidHierarchies, {"index": None}, Dataset)
        self.raises(InvalidHierarchies, {"index": None}, Dataset, facts=5)
        self.raises(InvalidHierarchies, {"index": None}, Dataset, ITEMS, ITEMS, ITEMS, ITEMS)
        self.raises(InvalidHierarchies, {"index": None}, Dataset, 5, 5, 5, 5, facts=5)

    def test_values_that_are_no_hierarchies(self):
        for value in odd_values() + [GOODS, ITEMS.entries, SALES, Sly(), Hierarchy, (ITEMS,)]:
            with self.subTest(value=value):
                self.raises(InvalidHierarchies, {"index": 0}, Dataset, value)
                self.raises(InvalidHierarchies, {"index": 0}, Dataset, value, value, ITEMS, facts=5)
                self.raises(InvalidHierarchies, {"index": 1}, Dataset, ITEMS, value, facts=FACTS)
                self.raises(InvalidHierarchies, {"index": 2}, Dataset, ITEMS, SHOPS, value, facts=((1, 2),))

    def test_facts_that_are_no_tuple(self):
        for value in odd_values() + [list(FACTS), [], {}, dict(FACTS), SALES, Sly()]:
            if not isinstance(value, tuple):
                with self.subTest(value=value):
                    self.raises(InvalidFacts, {"index": None}, Dataset, SHOPS, ITEMS, facts=value)
                    self.raises(InvalidFacts, {"index": None}, SALES.with_facts, value)
                    self.raises(InvalidFacts, {"index": None}, SALES.with_facts, facts=value)

    def test_elements_that_are_no_facts(self):
        wrong = odd_values() + [
            Sly(), (), (("t", "y"),), (("t", "y"), 1, 1), [("t", "y"), 1], (["t", "y"], 1), (("y", "t"), 1),
            (("t",), 1), (("t", "y", "y"), 1), (("ba", "y"), 1), (("*", "y"), 1), (("t", "*"), 1), (("*", "*"), 1),
            (("u", "y"), 1), (("t", "z"), 1), (("T", "y"), 1), ("ty", 1), (1, ("t", "y")), ((("t",), "y"), 1),
            (("t", None), 1), (("t", ["y"]), 1), (("t", True), 1), (("shop", "item"), 1), (None, 1), (("t", Sly()), 1),
            (Sly(), 1), (("t", "y"), Sly()), ("t", "y", 1),
        ]
        wrong.extend([(("t", "y"), value) for value in odd_values() if type(value) is not int])
        wrong.extend([(value, 1) for value in odd_values()])
        wrong.extend([((value, "y"), 1) for value in odd_values()] + [(("t", value), 1) for value in odd_values()])
        for value in wrong:
            with self.subTest(value=value):
                for index, facts in ((0, (value,)), (0, (value, value)), (3, (*FACTS, value)), (1, (FACTS[2], value, 5)),
                                     (1, (FACTS[2], value, FACTS[2]))):
                    self.raises(InvalidFacts, {"index": index}, Dataset, SHOPS, ITEMS, facts=facts)
                    self.raises(InvalidFacts, {"index": index}, SALES.with_facts, facts)

    def test_cells_that_came_before(self):
        for index, facts in (
            (1, (FACTS[0], FACTS[0])), (1, (FACTS[0], (("s", "x"), 9), 5)), (3, (*FACTS, (("s", "y"), 0))),
            (2, (FACTS[1], FACTS[0], FACTS[1], (1, 2))), (1, (FACTS[0], (("s", "x"), True), FACTS[0])),
        ):
            self.raises(InvalidFacts, {"index": index}, Dataset, SHOPS, ITEMS, facts=facts)
            self.raises(InvalidFacts, {"index": index}, SALES.with_facts, facts=facts)

    def test_true_is_no_amount(self):
        for amount in (True, False):
            self.raises(InvalidFacts, {"index": 0}, Dataset, ITEMS, facts=((("x",), amount),))


class WrongQuestionTest(Case):
    CALLS = ("total", "greatest", "least", "fact_count", "cell_shape")

    def test_values_that_are_no_views(self):
        wrong = odd_values() + [Sly(), ["shop", "item"], ("shop",), ("item", "shop"), ("shop", "item", "*"), ("*",),
                                ("*", "city"), ("s", "x"), (Sly(), "*"), ("*", ["*"]), (), "**", ("shop", "ite")]
        for value in wrong:
            fields = {"value": value}
            with self.subTest(value=value):
                for name in self.CALLS:
                    self.raises(InvalidView, fields, getattr(SALES, name), value, ("s", "x"))
                    self.raises(InvalidView, fields, getattr(SALES, name), cell=5, view=value)
                self.raises(InvalidView, fields, SALES.is_cell, value, ("s", "x"))
                self.raises(InvalidView, fields, SALES.is_cell, value=5, view=value)
                self.raises(InvalidView, fields, SALES.table, value)
                self.raises(InvalidView, fields, SALES.table, view=value)
                self.raises(InvalidView, fields, lambda: next(iter(SALES.cells(value))))
                self.raises(InvalidView, fields, lambda: list(SALES.cells(view=value)))

    def test_values_that_are_no_cells(self):
        wrong = odd_values() + [Sly(), ["s", "x"], ("s",), ("x", "s"), ("s", "x", "*"), (Sly(), "x"), ("s", Sly()),
                                ("shop", "item"), ("s", "z"), ("u", "x"), ("S", "x"), (), ("s", ["x"]), ("", "x")]
        for view in VIEWS:
            good = list(SALES.cells(view))
            for value in wrong + list(itertools.product(("s", "t", "ba", "x", "*", None, "item"), repeat=2)):
                if isinstance(value, tuple) and value in good and Sly not in [type(name) for name in value]:
                    self.assertIs(SALES.is_cell(view, value), True)
                    continue
                with self.subTest(view=view, value=value):
                    self.assertIs(SALES.is_cell(view, value), False)
                    self.assertIs(SALES.is_cell(value=value, view=view), False)
                    for name in self.CALLS:
                        self.raises(InvalidCell, {"value": value}, getattr(SALES, name), view, value)
                        self.raises(InvalidCell, {"value": value}, getattr(SALES, name), cell=value, view=view)


class QuestionTest(Case):
    def test_cells_is_a_generator(self):
        rows = SALES.cells(("item", "shop")[::-1])
        self.assertIs(iter(rows), rows)
        self.assertEqual([next(rows), next(rows)], [("s", "x"), ("s", "y")])
        self.assertEqual(list(rows), [("t", "x"), ("t", "y")])
        self.same([list(SALES.cells(view=("*", "*"))), list(SALES.cells(("*", "item")))],
                  [[("*", "*")], [("*", "x"), ("*", "y")]])

    def test_the_first_of_very_many_cells(self):
        many = Hierarchy(GOODS, *[(f"i{at}", "item", None, ()) for at in range(200)])
        dataset = Dataset(many, many, many, facts=((("i1", "i2", "i3"), 1),))
        rows = dataset.cells(("item", "item", "item"))
        self.same([next(rows), next(rows)], [("i0", "i0", "i0"), ("i0", "i0", "i1")])

    def test_cells_without_members(self):
        empty = Dataset(Hierarchy(PLACES), ITEMS)
        self.same([list(empty.cells(("shop", "item"))), empty.table(("city", "*")), empty.table(("*", "item"))],
                  [[], (), ((("*", "x"), 0), (("*", "y"), 0))])
        self.same([empty.total(("*", "*"), ("*", "*")), empty.is_cell(("*", "*"), ("*", "*"))], [0, True])

    def test_members_without_parents(self):
        dataset = Dataset(SHOPS, facts=((("t",), 7),))
        self.same([dataset.total(("city",), ("ba",)), dataset.total(("shop",), ("t",)), dataset.total(("*",), ("*",)),
                   dataset.table(("city",))], [0, 7, 7, ((("ba",), 0),)])

    def test_a_member_that_is_reached_by_two_ways_counts_once(self):
        schema = Schema("a", ("a", "b"), ("a", "c"), ("b", "d"), ("c", "d"))
        hierarchy = Hierarchy(schema, ("m", "a", None, ("n", "o")), ("n", "b", None, ("p",)), ("o", "c", None, ("p",)),
                              ("p", "d", None, ()))
        dataset = Dataset(hierarchy, facts=((("m",), 3),))
        self.same([dataset.total(("d",), ("p",)), dataset.table(("d",)), dataset.fact_count(("d",), ("p",))],
                  [3, ((("p",), 3),), 1])

    def test_many_members_and_facts(self):
        members = [(f"c{at}", "city", None, ()) for at in range(20)]
        members += [(f"s{at}", "shop", None, (f"c{at % 20}",)) for at in range(180)]
        hierarchy = Hierarchy(PLACES, *members)
        amount = 10 ** 60 - 1
        facts = tuple(((f"s{at % 180}", f"s{at % 180}", f"s{at // 180}"), amount) for at in range(200))
        dataset = Dataset(hierarchy, hierarchy, hierarchy, facts=facts)
        self.same([len(hierarchy), len(dataset)], [200, 200])
        self.same([dataset.total(("city", "*", "*"), ("c3", "*", "*")), dataset.total(("*", "*", "*"), ("*", "*", "*"))],
                  [10 * amount, 200 * amount])
        self.same(dataset.fact_count(("*", "*", "city"), ("*", "*", "c1")), 20)
        table = dataset.table(("city", "city", "city"))
        self.same([len(table), sum(total for _, total in table)], [8000, 200 * amount])

    def test_as_searched_through(self):
        sizes = []
        for chance, dataset, cube, hierarchies, facts in random_datasets(21, 150):
            self.same(dataset.facts, tuple(sorted(facts)))
            self.assertEqual(dataset.cube, cube)
            sizes.append(len(facts))
            views = views_of(cube)
            for view in chance.sample(views, min(len(views), 8)):
                cells = places.cells_of(hierarchies, view)
                self.same(list(dataset.cells(view)), cells)
                amounts = {cell: places.amounts_in(hierarchies, facts, cell) for cell in cells}
                self.same(dataset.table(view), tuple((cell, sum(amounts[cell])) for cell in cells))
                for cell in chance.sample(cells, min(len(cells), 12)):
                    self.check_cell(dataset, view, cell, amounts[cell])
        self.assertTrue(max(sizes) == 12 and sizes.count(0) < 75, sizes)

    def check_cell(self, dataset, view, cell, amounts):
        """Check what is told of a cell with these amounts."""
        self.same([dataset.total(view, cell), dataset.fact_count(cell=cell, view=view)], [sum(amounts), len(amounts)])
        self.same([dataset.greatest(view, cell), dataset.least(cell=cell, view=view)],
                  [max(amounts, default=None), min(amounts, default=None)])
        self.assertIs(dataset.is_cell(view, cell), True)
        shapes = dataset.cell_shape(view, cell)
        self.assertIs(type(shapes), tuple)
        self.assertEqual(shapes, tuple("*" if name == "*" else hierarchy.shape(name)
                                       for name, hierarchy in zip(cell, dataset.hierarchies)))


class AboveTest(Case):
    def test_cells_go_into_one_cell_of_a_view_or_none(self):
        seen = {True: 0, False: 0}
        for chance, dataset, cube, hierarchies, _ in random_datasets(22, 60):
            views = views_of(cube)
            for _ in range(10):
                view, upper = chance.choice(views), chance.choice(views)
                for cell in places.cells_of(hierarchies, view)[:10]:
                    found = [place for place in places.cells_of(hierarchies, upper)
                             if places.goes_into(hierarchies, cell, place)]
                    self.assertTrue(len(found) < 2)
                    self.same(cell_above(dataset.hierarchies, cell, upper), found[0] if found else None)
                    seen[bool(found)] += 1
        self.assertTrue(min(seen.values()) > 100, seen)


class EqualityTest(Case):
    def test_equality(self):
        datasets = [SALES, SALES.with_facts(()), SALES.with_facts(FACTS[:2]), Dataset(ITEMS), Dataset(SHOPS),
                    SALES.with_facts((*FACTS[:2], (("t", "x"), 8))), Dataset(ITEMS, SHOPS), Dataset(SHOPS, SHOPS),
                    Dataset(SHOPS, facts=((("s",), 0),)), Dataset(Hierarchy(GOODS))]
        for (at, first), (place, second) in itertools.product(enumerate(datasets), enumerate(datasets)):
            self.assertIs(first == second, at == place)
            self.assertIs(first != second, at != place)

    def test_never_equal_to_another_class(self):
        for value in odd_values() + [SALES.facts, SALES.hierarchies, SALES.cube, SHOPS]:
            self.assertIs(SALES == value, False)
            self.assertIs(SALES != value, True)


if __name__ == "__main__":
    unittest.main()
