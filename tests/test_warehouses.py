"""Warehouses: deeds, their errors and their history, and what the stored totals answer."""

import itertools
import random
import unittest

from raggedtotals.conditions import Reaches
from raggedtotals.cubes import Cube
from raggedtotals.datasets import Dataset
from raggedtotals.errors import (
    BrokenRule, HasChildren, HasFacts, InvalidAmount, InvalidCell, InvalidDeed, InvalidMembers, InvalidParents,
    InvalidSchemas, InvalidStored, InvalidView, MissingFact, NotAWarehouse, NotDetermined, NothingToUndo, NotStored,
    TooMany, TwoAncestors, UnknownMember,
)
from raggedtotals.hierarchies import Hierarchy
from raggedtotals.schemas import Schema
from raggedtotals.sums import find_formula
from raggedtotals.warehouses import Warehouse, set_views, what_if
from tests import places, sights, spots
from tests.helpers import odd_values
from tests.places import Sly
from tests.stock import Stock, has_form, random_deed
from tests.test_blindspots import SpotCase
from tests.test_sums import METRO, SIXTY

SHOPS = Schema("shop", ("shop", "city"), ("shop", "zone"), ("city", "land"), ("zone", "land"),
               marks=(("city", "old", "new"),), rules=(("shop", Reaches("land")), ("city", Reaches("land"))))
ITEMS = Schema("item", ("item", "kind"))
LAND = (("l", "land", None, ()), ("c", "city", "old", ("l",)), ("d", "city", "new", ("l",)), ("z", "zone", None, ("l",)),
        ("s", "shop", None, ("c",)), ("t", "shop", None, ("c", "z")), ("u", "shop", None, ("d",)))
GOODS = (("k", "kind", None, ()), ("x", "item", None, ("k",)), ("y", "item", None, ()))
VIEWS = (("shop", "item"), ("city", "*"), ("*", "kind"), ("land", "item"))
FACTS = (("fact", ("s", "x"), 5), ("fact", ("s", "y"), -2), ("fact", ("t", "x"), 11))


def made(*deeds, views=VIEWS):
    """A warehouse of shops and items with members, and with these deeds done."""
    warehouse = Warehouse(SHOPS, ITEMS, views=views)
    warehouse.do_all(("put", 0, *LAND), ("put", 1, *GOODS), *deeds)
    return warehouse


def shown(warehouse):
    """All that a warehouse shows."""
    tables = [warehouse.kept(view) for view in warehouse.views]
    return warehouse.dataset, warehouse.history, warehouse.views, tables, len(warehouse), repr(warehouse)


class StoreCase(SpotCase):
    def check_tables(self, warehouse):
        """Check the stored totals against the plain totals of the facts."""
        for view in warehouse.views:
            wished = sorted(spots.values(warehouse.dataset, view).items())
            self.same(warehouse.kept(view), tuple(wished))
            self.same(warehouse.kept(view), warehouse.dataset.table(view))

    def check_stock(self, warehouse, stock):
        """Check that a warehouse has what it should have."""
        for place, hierarchy in enumerate(warehouse.dataset.hierarchies):
            self.assertEqual(hierarchy.schema, stock.schemas[place])
            self.assertEqual(list(hierarchy.entries), stock.entries(place))
        self.assertEqual(warehouse.dataset.facts, tuple(sorted(stock.facts.items())))
        self.assertEqual(len(warehouse.history), len(stock.history))
        self.assertTrue(all(deed is other for deed, other in zip(warehouse.history, stock.history)))
        many = len(stock.facts), len(warehouse.views)
        self.same([len(warehouse), bool(warehouse)], [many[0], many[0] > 0])
        self.same(repr(warehouse), f"Warehouse({len(stock.schemas)} dimensions, {many[0]} facts, {many[1]} views)")
        self.check_tables(warehouse)

    def fails(self, error, fields, warehouse, deed):
        """Check that a deed raises an error in all ways to do it, and changes nothing."""
        before = shown(warehouse)
        self.raises(error, fields, warehouse.do, deed)
        self.raises(error, fields, warehouse.do, deed=deed)
        self.raises(error, fields, warehouse.do_all, deed)
        self.raises(error, fields, warehouse.do_all, ("put", 0), deed, ("remove", 0))
        self.raises(error, fields, what_if, warehouse, ("*",) * len(warehouse.cube), 5, deed)
        self.assertEqual(shown(warehouse), before)


class RandomTest(StoreCase):
    def warehouses(self, seed, count):
        """Empty warehouses of some cubes with some views, and their stocks."""
        for chance, cube, wanted, stored in sights.random_cubes(seed, count, most=20):
            views = tuple(dict.fromkeys((*stored, wanted)))
            yield chance, Warehouse(*cube.schemas, views=views), Stock(cube.schemas)

    def test_many_deeds(self):
        odd, seen = [*odd_values(), Sly(), ("x", "item", None, ()), 10 ** 30], {}
        for chance, warehouse, stock in self.warehouses(101, 90):
            for _ in range(30):
                deed = random_deed(chance, stock, odd)
                if not has_form(deed, len(stock.schemas)):
                    self.raises(InvalidDeed, {"index": 0}, warehouse.do, deed)
                    seen[InvalidDeed] = seen.get(InvalidDeed, 0) + 1
                    continue
                wrong = stock.wrong(deed)
                if wrong is None:
                    self.assertIsNone(warehouse.do(deed))
                    stock = stock.after(deed)
                else:
                    self.raises(*wrong, warehouse.do, deed)
                key = deed[0] if wrong is None else wrong[0]
                seen[key] = seen.get(key, 0) + 1
                self.check_stock(warehouse, stock)
        for key in ("put", "remove", "fact", "clear", InvalidDeed, InvalidMembers, HasFacts, InvalidParents,
                    BrokenRule, UnknownMember, HasChildren, InvalidCell, InvalidAmount, MissingFact):
            self.assertTrue(seen.get(key, 0) > 1, (key, seen))

    def test_many_deeds_at_once(self):
        seen = {True: 0, False: 0}
        for chance, warehouse, stock in self.warehouses(102, 60):
            for _ in range(8):
                deeds, later, error = [], stock, None
                for _ in range(chance.randint(0, 6)):
                    deed = random_deed(chance, later, ["x"])
                    if not has_form(deed, len(stock.schemas)):
                        continue
                    deeds.append(deed)
                    error = error or later.wrong(deed)
                    later = later if error else later.after(deed)
                before = shown(warehouse)
                if error:
                    self.raises(*error, warehouse.do_all, *deeds)
                    self.assertEqual(shown(warehouse), before)
                else:
                    self.assertIsNone(warehouse.do_all(*deeds))
                    stock = later
                self.check_stock(warehouse, stock)
                seen[error is None] += 1
        self.assertTrue(min(seen.values()) > 40, seen)

    def test_deeds_and_undoing_and_views(self):
        for chance, warehouse, stock in self.warehouses(103, 30):
            stocks = [stock]
            for _ in range(25):
                turn = chance.random()
                if turn < 0.2:
                    views = spots.views_of(warehouse.cube)
                    warehouse.views = tuple(chance.sample(views, min(len(views), chance.randint(0, 10))))
                elif turn < 0.45 and len(stocks) > 1:
                    stocks.pop()
                    self.assertIsNone(warehouse.undo())
                else:
                    deed = random_deed(chance, stocks[-1], ["x"])
                    if has_form(deed, len(stock.schemas)) and stocks[-1].wrong(deed) is None:
                        warehouse.do(deed)
                        stocks.append(stocks[-1].after(deed))
                self.check_stock(warehouse, stocks[-1])
            while len(stocks) > 1:
                stocks.pop()
                warehouse.undo()
                self.check_stock(warehouse, stocks[-1])
            self.raises(NothingToUndo, {}, warehouse.undo)
            self.check_stock(warehouse, stocks[0])

    def test_asking(self):
        seen = {True: 0, False: 0}
        for chance, warehouse, stock in self.warehouses(104, 60):
            for _ in range(12):
                deed = random_deed(chance, stock, ["x"])
                if has_form(deed, len(stock.schemas)) and stock.wrong(deed) is None:
                    warehouse.do(deed)
                    stock = stock.after(deed)
            views = spots.views_of(warehouse.cube)
            for view in chance.sample(views, min(len(views), 6)):
                if len(spots.counts(warehouse.cube, view, ())) <= 60:
                    seen[self.check_answers(chance, warehouse, view)] += 1
        self.assertTrue(min(seen.values()) > 40, seen)

    def check_answers(self, chance, warehouse, view):
        """Check what is asked for some cells of a view; return whether its totals are determined."""
        cube, stored = warehouse.cube, warehouse.views
        totals = spots.values(warehouse.dataset, view)
        known = spots.determined(cube, view, stored)
        formula = find_formula(cube, view, stored)
        for cell in chance.sample(sorted(totals), min(len(totals), 4)):
            if known:
                self.same(warehouse.ask(view, cell), totals[cell])
                self.same(warehouse.ask(cell=cell, view=view), totals[cell])
                sources = warehouse.sources(view, cell)
                self.same(sources, formula.used(warehouse.dataset, cell))
                kept = [dict(warehouse.kept(other)) for other in stored]
                total = sum(sights.Fraction(*row[2:]) * kept[row[0]][row[1]] for row in sources)
                self.assertEqual(total, totals[cell])
                self.same(what_if(warehouse, view, cell), totals[cell])
            else:
                for call in (warehouse.ask, warehouse.sources, lambda *args: what_if(warehouse, *args)):
                    with self.assertRaises(NotDetermined) as caught:
                        call(view, cell)
                    self.assertIs(type(caught.exception), NotDetermined)
                    self.check_spot(cube, view, stored, "total", caught.exception.blind_spot)
        return known


class NewTest(StoreCase):
    def test_an_empty_warehouse(self):
        for schemas in ((SHOPS,), (SHOPS, ITEMS), (ITEMS, ITEMS, SHOPS)):
            warehouse = Warehouse(*schemas)
            self.assertEqual(warehouse.cube, Cube(*schemas))
            self.assertEqual(warehouse.dataset, Dataset(*[Hierarchy(schema) for schema in schemas]))
            self.same([warehouse.history, warehouse.views, len(warehouse), bool(warehouse)], [(), (), 0, False])
            self.same(repr(warehouse), f"Warehouse({len(schemas)} dimensions, 0 facts, 0 views)")
            self.raises(NothingToUndo, {}, warehouse.undo)

    def test_with_views(self):
        warehouse = Warehouse(SHOPS, ITEMS, views=VIEWS)
        self.assertIs(warehouse.views, VIEWS)
        self.same(repr(warehouse), "Warehouse(2 dimensions, 0 facts, 4 views)")
        self.check_tables(warehouse)
        self.same([Warehouse(SHOPS, views=()).views, Warehouse(ITEMS, views=(("*",),)).kept(("*",))],
                  [(), ((("*",), 0),)])

    def test_wrong_schemas(self):
        self.raises(InvalidSchemas, {"index": None}, Warehouse)
        self.raises(InvalidSchemas, {"index": None}, Warehouse, views=5)
        self.raises(InvalidSchemas, {"index": None}, Warehouse, ITEMS, ITEMS, ITEMS, ITEMS, views=5)
        for value in odd_values() + [Sly(), str(ITEMS), Cube(ITEMS), (ITEMS,)]:
            if not isinstance(value, Schema):
                with self.subTest(value=value):
                    self.raises(InvalidSchemas, {"index": 0}, Warehouse, value)
                    self.raises(InvalidSchemas, {"index": 1}, Warehouse, ITEMS, value, value, views=5)
                    self.raises(InvalidSchemas, {"index": 2}, Warehouse, ITEMS, SHOPS, value, views=((),))

    def test_wrong_views(self):
        warehouse = Warehouse(METRO)
        warehouse.do(("put", 0, ("jp", "country", None, ())))
        for index, value in self.wrong_views():
            before = shown(warehouse)
            with self.subTest(value=value):
                self.raises(InvalidStored, {"index": index}, Warehouse, METRO, views=value)
                self.raises(InvalidStored, {"index": index}, set_views, warehouse, value)
                self.raises(InvalidStored, {"index": index}, set_views, views=value, warehouse=warehouse)
                self.raises(InvalidStored, {"index": index}, setattr, warehouse, "views", value)
            self.assertEqual(shown(warehouse), before)

    def wrong_views(self):
        """Pairs of an index and what is no tuple of at most ten different views."""
        good = tuple((level,) for level in (*METRO.levels, "*"))
        for value in odd_values() + [Sly(), list(good), {good[0]: 1}, (good[0],) * 11, (5,) * 11, "*"]:
            if not isinstance(value, tuple) or len(value) > 10:
                yield None, value
        for value in odd_values() + [Sly(), "city", ["city"], ("city", "*"), (), (Sly(),), ("jp",)]:
            yield 0, (value,)
            yield 3, (*good[:3], value, value, good[0])
        for index in range(1, 5):
            yield index, (*good[:index], good[0], 5)
            yield index, (*good[:index], (*good[index - 1],))
        many = Warehouse(SHOPS, SHOPS)
        views = tuple(spots.views_of(many.cube))
        many.views = views[:10]
        self.raises(InvalidStored, {"index": None}, set_views, many, views[:11])

    def test_no_warehouse(self):
        for value in odd_values() + [Sly(), Warehouse, METRO, made().dataset, Cube(METRO)]:
            with self.subTest(value=value):
                self.raises(NotAWarehouse, {"value": value}, set_views, value, ())
                self.raises(NotAWarehouse, {"value": value}, set_views, views=5, warehouse=value)
                self.raises(NotAWarehouse, {"value": value}, what_if, value, ("*",), ("*",))
                self.raises(NotAWarehouse, {"value": value}, what_if, value, 5, 5, 5)

    def test_equal_to_itself_alone(self):
        first, second = made(), made()
        self.same([first == second, first != second, first == first, first != first], [False, True, True, False])
        for value in odd_values() + [first.dataset, VIEWS]:
            self.assertIs(first == value, False)

    def test_truth(self):
        warehouse = made()
        self.same([bool(warehouse), len(warehouse)], [False, 0])
        warehouse.do(("fact", ("s", "x"), 0))
        self.same([bool(warehouse), len(warehouse)], [True, 1])

    def test_properties_that_cannot_be_assigned(self):
        warehouse = made()
        for name in ("dataset", "cube", "history"):
            with self.assertRaises(AttributeError):
                setattr(warehouse, name, getattr(warehouse, name))


class PutTest(StoreCase):
    def test_several_entries_take_effect_at_once(self):
        warehouse = Warehouse(SHOPS, views=(("land",), ("shop",)))
        self.assertIsNone(warehouse.do(("put", 0, *reversed(LAND))))
        self.assertEqual(warehouse.dataset.hierarchies, (Hierarchy(SHOPS, *LAND),))
        self.check_tables(warehouse)
        # All ways up turn to another land at once; one by one they would break.
        turned = [("m", "land", None, ())] + [(name, level, mark, ("m",)) for name, level, mark, _ in LAND[1:4]]
        warehouse.do(("put", 0, *turned))
        self.same([warehouse.dataset.hierarchies[0].ancestor("t", "land")], ["m"])
        self.fails(TwoAncestors, {"member": "t"}, warehouse, ("put", 0, ("c", "city", "old", ("l",))))

    def test_none(self):
        warehouse = made(*FACTS)
        before = warehouse.dataset
        deed = ("put", 1)
        warehouse.do(deed)
        self.assertEqual(warehouse.dataset, before)
        self.assertIs(warehouse.history[-1], deed)

    def test_in_the_place_of_others(self):
        warehouse = made(*FACTS)
        deed = ("put", 0, ("s", "shop", None, ("z", "d")), ("c", "city", "new", ("l",)))
        warehouse.do(deed)
        self.same(warehouse.dataset.hierarchies[0].entry("s"), ("s", "shop", None, ("d", "z")))
        self.same(warehouse.kept(("city", "*")), ((("c", "*"), 11), (("d", "*"), 3)))
        self.same([warehouse.ask(("land", "kind"), ("l", "k")), len(warehouse)], [16, 3])
        self.assertIs(warehouse.history[-1], deed)
        warehouse.do(("put", 0, ("u", "zone", None, ("l",))))
        self.same(warehouse.dataset.hierarchies[0].members("zone"), ("u", "z"))
        self.check_tables(warehouse)

    def test_invalid_members(self):
        warehouse = made(*FACTS)
        wrong = [
            (), ("a",), ("a", "city", "old"), ("a", "city", "old", (), ()), ["a", "city", "old", ()],
            ("A", "city", "old", ()), (5, "city", "old", ()), ("", "city", "old", ()), ("abcdefghi", "city", "old", ()),
            ("a", "town", "old", ()), ("a", "*", "old", ()), ("a", None, None, ()), ("a", "item", None, ()),
            ("a", "city", None, ()), ("a", "city", "odd", ()), ("a", "city", True, ()), ("a", "city", ("old",), ()),
            ("a", "zone", "old", ()), ("a", "zone", False, ()), ("a", "zone", 0, ()), ("a", "zone", "", ()),
            ("a", "zone", None, ["l"]), ("a", "zone", None, "l"), ("a", "zone", None, None),
            ("a", "zone", None, ("l", "l")), ("a", "zone", None, (5,)), ("a", "zone", None, ("L",)),
            ("a", "zone", None, (("l",),)), ("a", "zone", None, ("l", True)),
        ]
        for value in wrong + [value for value in odd_values()] + [Sly(), (Sly(),) * 4, ("a", Sly(), None, ())]:
            with self.subTest(value=value):
                self.fails(InvalidMembers, {"index": 0}, warehouse, ("put", 0, value))
                self.fails(InvalidMembers, {"index": 2}, warehouse,
                           ("put", 0, ("a1", "zone", None, ("l",)), ("s", "land", None, ()), value, value))
        again = ("put", 0, ("a", "zone", None, ("l",)), ("s", "land", None, ()), ("a", "city", "old", ("nix",)), 5)
        self.fails(InvalidMembers, {"index": 2}, warehouse, again)

    def test_has_facts(self):
        warehouse = made(*FACTS)
        self.fails(HasFacts, {"value": "s"}, warehouse, ("put", 0, ("s", "land", None, ())))
        self.fails(HasFacts, {"value": "t"}, warehouse, (
            "put", 0, ("u", "land", None, ("x",)), ("t", "zone", None, ("s",)), ("s", "land", None, ("s",))))
        self.fails(HasFacts, {"value": "y"}, warehouse, ("put", 1, ("x", "item", None, ()), ("y", "kind", None, ("x",))))
        # Names in the other dimension, without facts, and of the same level are no hindrance.
        warehouse.do_all(("put", 0, ("x", "land", None, ())), ("put", 0, ("u", "zone", None, ("l",))),
                         ("put", 1, ("x", "item", None, ()), ("s", "kind", None, ())))
        self.check_tables(warehouse)
        warehouse.do_all(("clear", ("s", "x")), ("clear", ("s", "y")), ("put", 0, ("s", "land", None, ())))
        self.check_tables(warehouse)

    def test_facts_with_amount_zero_are_facts(self):
        warehouse = made(("fact", ("s", "y"), 0))
        self.fails(HasFacts, {"value": "s"}, warehouse, ("put", 0, ("s", "land", None, ())))
        self.fails(HasFacts, {"value": "y"}, warehouse, ("remove", 1, "y"))

    def test_invalid_parents(self):
        warehouse = made(*FACTS)
        for parents in (("nix",), ("s",), ("l",), ("c", "nix"), ("t",)):
            self.fails(InvalidParents, {"member": "s"}, warehouse, ("put", 0, ("s", "shop", None, parents)))
        # Members in ascending order of their names, also those that stay as they are.
        self.fails(InvalidParents, {"member": "a"}, warehouse, (
            "put", 0, ("u", "shop", None, ("nix",)), ("a", "zone", None, ("nix",)), ("b", "zone", None, ("b",))))
        self.fails(InvalidParents, {"member": "c"}, warehouse, ("put", 0, ("l", "zone", None, ())))

    def test_two_ancestors(self):
        warehouse = made(("put", 0, ("m", "land", None, ()), ("y", "zone", None, ("m",))))
        self.fails(TwoAncestors, {"member": "t"}, warehouse, ("put", 0, ("t", "shop", None, ("c", "y"))))
        self.fails(TwoAncestors, {"member": "s"}, warehouse, (
            "put", 0, ("u", "shop", None, ("c", "d")), ("s", "shop", None, ("c", "y"))))
        # Of several faults the kind that comes first in the document is told.
        self.fails(InvalidParents, {"member": "z"}, warehouse, (
            "put", 0, ("t", "shop", None, ("c", "y")), ("a", "shop", None, ()), ("z", "zone", None, ("z",))))

    def test_broken_rules(self):
        warehouse = made(*FACTS)
        self.fails(BrokenRule, {"member": "s", "index": 0}, warehouse, ("put", 0, ("s", "shop", None, ())))
        self.fails(BrokenRule, {"member": "c", "index": 1}, warehouse, ("put", 0, ("c", "city", "old", ())))
        self.fails(BrokenRule, {"member": "a", "index": 1}, warehouse, (
            "put", 0, ("v", "shop", None, ()), ("b", "city", "new", ()), ("a", "city", "new", ())))
        self.fails(TwoAncestors, {"member": "u"}, warehouse, (
            "put", 0, ("a", "city", "new", ()), ("u", "shop", None, ("c", "d"))))
        self.fails(HasFacts, {"value": "t"}, warehouse, ("put", 0, ("a", "city", "new", ()), ("t", "land", None, ())))


class RemoveTest(StoreCase):
    def test_several_at_once_in_any_order(self):
        warehouse = made()
        warehouse.do(("remove", 0, "c", "t", "s"))
        self.same(list(warehouse.dataset.hierarchies[0]), ["d", "l", "u", "z"])
        warehouse.do(("remove", 0, "l", "u", "d", "z"))
        self.same(len(warehouse.dataset.hierarchies[0]), 0)
        self.check_tables(warehouse)

    def test_none(self):
        warehouse = made(*FACTS)
        before = warehouse.dataset
        warehouse.do(("remove", 0))
        self.assertEqual(warehouse.dataset, before)
        self.same(warehouse.history[-1], ("remove", 0))

    def test_unknown_members(self):
        warehouse = made(*FACTS)
        for value in odd_values() + [Sly(), "x", "k", "shop", "*", ("s",), ["s"], "S"]:
            with self.subTest(value=value):
                self.fails(UnknownMember, {"value": value}, warehouse, ("remove", 0, value))
                self.fails(UnknownMember, {"value": value}, warehouse, ("remove", 0, "s", "l", value, 5))
        self.fails(UnknownMember, {"value": "u"}, warehouse, ("remove", 0, "u", "s", "u", 5))
        self.fails(UnknownMember, {"value": "s"}, warehouse, ("remove", 1, "y", "s", "y"))

    def test_has_facts(self):
        warehouse = made(*FACTS)
        self.fails(HasFacts, {"value": "s"}, warehouse, ("remove", 0, "s"))
        self.fails(HasFacts, {"value": "t"}, warehouse, ("remove", 0, "u", "c", "t", "s"))
        self.fails(HasFacts, {"value": "y"}, warehouse, ("remove", 1, "k", "y", "x"))

    def test_has_children(self):
        warehouse = made(*FACTS)
        self.fails(HasChildren, {"value": "l"}, warehouse, ("remove", 0, "u", "l", "d"))
        self.fails(HasChildren, {"value": "d"}, warehouse, ("remove", 0, "d"))
        self.fails(HasChildren, {"value": "z"}, warehouse, ("remove", 0, "z", "c"))
        self.fails(HasChildren, {"value": "k"}, warehouse, ("remove", 1, "k"))
        warehouse.do(("remove", 0, "d", "u"))
        self.check_tables(warehouse)

    def test_the_order_of_errors(self):
        warehouse = made(*FACTS)
        self.fails(UnknownMember, {"value": "nix"}, warehouse, ("remove", 0, "l", "s", "nix"))
        self.fails(HasFacts, {"value": "s"}, warehouse, ("remove", 0, "l", "z", "s"))


class FactTest(StoreCase):
    def test_new_and_given_again(self):
        warehouse = made()
        for amount in (5, 5, 0, -3, 10 ** 59, -10 ** 59, 0):
            deed = ("fact", ("t", "x"), amount)
            warehouse.do(deed)
            self.assertIs(warehouse.history[-1], deed)
            self.same(warehouse.dataset.facts, ((("t", "x"), amount),))
            self.same([warehouse.ask(("city", "*"), ("c", "*")), len(warehouse)], [amount, 1])
            self.check_tables(warehouse)
        warehouse.do(("fact", ("s", "x"), 7))
        self.same([warehouse.ask(("*", "kind"), ("*", "k")), len(warehouse)], [7, 2])
        self.assertEqual(len(warehouse.history), 10)

    def test_invalid_cells(self):
        warehouse = made(*FACTS)
        wrong = [("s",), ("s", "x", "x"), ("x", "s"), ("c", "x"), ("s", "k"), ("*", "x"), ("s", "*"), ["s", "x"], "sx",
                 ("nix", "x"), ("s", None), (("s",), "x"), ("s", ["x"]), Sly(), (Sly(), "x"), ("s", Sly())]
        for value in wrong + odd_values():
            with self.subTest(value=value):
                self.fails(InvalidCell, {"value": value}, warehouse, ("fact", value, 5))
                self.fails(InvalidCell, {"value": value}, warehouse, ("fact", value, None))

    def test_invalid_amounts(self):
        warehouse = made(*FACTS)
        for value in odd_values() + [Sly(), "5", (5,), [5], b"5"]:
            if type(value) is not int:
                with self.subTest(value=value):
                    self.fails(InvalidAmount, {"value": value}, warehouse, ("fact", ("s", "x"), value))
                    self.fails(InvalidAmount, {"value": value}, warehouse, ("fact", ("u", "y"), value))

    def test_clear(self):
        warehouse = made(*FACTS, ("fact", ("u", "y"), 0))
        for cell in (("u", "y"), ("s", "x")):
            warehouse.do(("clear", cell))
            self.check_tables(warehouse)
            self.fails(MissingFact, {"value": cell}, warehouse, ("clear", cell))
        self.same(warehouse.dataset.facts, ((("s", "y"), -2), (("t", "x"), 11)))

    def test_missing_facts(self):
        warehouse = made(*FACTS)
        wrong = [("s",), ("u", "x"), ("x", "s"), ("c", "x"), ("s", "k"), ("*", "x"), ("s", "*"), ["s", "x"], "sx",
                 ("nix", "x"), ("s", None), (("s",), "x"), ("s", ["x"]), Sly(), (Sly(), "x"), ("s", Sly())]
        for value in wrong + odd_values():
            with self.subTest(value=value):
                self.fails(MissingFact, {"value": value}, warehouse, ("clear", value))


class FormTest(StoreCase):
    def wrong_forms(self):
        """Values that do not have the form of a deed."""
        cell = ("s", "x")
        wrong = [
            (), ("put",), ("remove",), ("fact",), ("clear",), ("fact", cell), ("fact", cell, 5, 5), ("clear", cell, 5),
            ("put", 2), ("put", -1), ("put", True), ("put", False), ("put", None), ("put", "0"), ("put", (0,)),
            ("put", 10 ** 40), ("remove", 2, "s"), ("remove", -1, "s"), ("remove", True, "s"), ("remove", "s"),
            ("Put", 0), ("put ", 0), (b"put", 0), (("put",), 0), (None, 0), (Sly(), 0), ("put", Sly()), (0, "put"),
            ["put", 0], ["fact", cell, 5], ("undo",), ("views", ()), ("fac", cell, 5), "put", ("clear",) * 3, ("", cell),
            (["put"], 0), ({}, 0), ("put", [0]), ("move", 0, "s"), ("facts", cell, 5), ("cleared", cell),
        ]
        return wrong + odd_values() + [Sly(), Warehouse]

    def test_do(self):
        warehouse = made(*FACTS)
        for value in self.wrong_forms():
            with self.subTest(value=value):
                before = shown(warehouse)
                self.raises(InvalidDeed, {"index": 0}, warehouse.do, value)
                self.raises(InvalidDeed, {"index": 0}, warehouse.do, deed=value)
                self.assertEqual(shown(warehouse), before)

    def test_do_all(self):
        warehouse = made(*FACTS)
        looked = []
        for value in self.wrong_forms():
            with self.subTest(value=value):
                before = shown(warehouse)
                self.raises(InvalidDeed, {"index": 0}, warehouse.do_all, value, value)
                self.raises(InvalidDeed, {"index": 2}, warehouse.do_all, ("remove", 0, "nix"), ("clear", 5), value, 5,
                            watch=lambda *args: looked.append(args))
                self.raises(InvalidDeed, {"index": 1}, what_if, warehouse, ("*", "*"), 5, ("clear", 5), value)
                self.assertEqual(shown(warehouse), before)
        self.assertEqual(looked, [])

    def test_dimensions_that_there_are(self):
        for many in (1, 2, 3):
            warehouse = Warehouse(*[ITEMS] * many)
            for place in range(many):
                warehouse.do(("put", place, ("a", "item", None, ())))
                self.same(len(warehouse.dataset.hierarchies[place]), 1)
            self.raises(InvalidDeed, {"index": 0}, warehouse.do, ("put", many))


class Halt(Exception):
    """An error that a watch raises."""


class WatchTest(StoreCase):
    DEEDS = (("fact", ("s", "x"), 1), ("put", 0, ("s", "shop", None, ("d",))), ("clear", ("t", "x")),
             ("remove", 0, "t"), ("fact", ("u", "y"), 0))

    def test_it_sees_all_deeds_up_to_this_one(self):
        warehouse = made(*FACTS)
        before, seen = shown(warehouse), []

        def watch(given, index):
            self.assertIs(given, warehouse)
            seen.append((index, shown(given), given.ask(("city", "*"), ("d", "*"))))

        self.assertIsNone(warehouse.do_all(*self.DEEDS, watch=watch))
        other = made(*FACTS)
        for index, deed in enumerate(self.DEEDS):
            other.do(deed)
            self.assertEqual(seen[index], (index, shown(other), other.ask(("city", "*"), ("d", "*"))))
        self.assertEqual([row[0] for row in seen], [0, 1, 2, 3, 4])
        self.assertEqual(shown(warehouse), shown(other))
        self.assertNotEqual(shown(warehouse), before)

    def test_a_deed_in_the_middle_is_not_possible(self):
        for at in range(len(self.DEEDS) + 1):
            warehouse = made(*FACTS)
            before, seen = shown(warehouse), []
            deeds = (*self.DEEDS[:at], ("clear", ("nix", "x")), *self.DEEDS[at:])
            self.raises(MissingFact, {"value": ("nix", "x")}, warehouse.do_all, *deeds)
            self.assertEqual(shown(warehouse), before)
            self.raises(MissingFact, {"value": ("nix", "x")}, warehouse.do_all, *deeds,
                        watch=lambda _, index: seen.append(index))
            self.assertEqual([seen, shown(warehouse)], [list(range(at)), before])
            warehouse.undo()
            self.assertEqual(shown(warehouse), shown(made(*FACTS[:2])))

    def test_the_watch_raises(self):
        for error in (Halt("x"), ValueError(5), InvalidDeed(7), StopIteration(), KeyError("x"), AssertionError()):
            for at in range(len(self.DEEDS)):
                warehouse = made(*FACTS)
                before = shown(warehouse)

                def watch(_, index, at=at, error=error):
                    if index == at:
                        raise error

                with self.assertRaises(type(error)) as caught:
                    warehouse.do_all(*self.DEEDS, watch=watch)
                self.assertIs(caught.exception, error)
                self.assertEqual(shown(warehouse), before)
                self.check_tables(warehouse)

    def test_no_deeds(self):
        warehouse = made(*FACTS)
        before, seen = shown(warehouse), []
        self.assertIsNone(warehouse.do_all())
        self.assertIsNone(warehouse.do_all(watch=lambda *args: seen.append(args)))
        self.assertEqual([shown(warehouse), seen], [before, []])

    def test_the_watch_may_ask_what_if(self):
        warehouse, seen = made(*FACTS), []

        def watch(given, index):
            seen.append(what_if(given, ("*", "*"), ("*", "*"), ("fact", ("u", "x"), 100 + index)))

        warehouse.do_all(("fact", ("s", "x"), 0), ("fact", ("s", "y"), 0), watch=watch)
        self.assertEqual([seen, len(warehouse.history)], [[109, 112], 7])

    def test_each_deed_is_undone_for_itself(self):
        warehouse = made(*FACTS)
        before = shown(warehouse)
        warehouse.do_all(*self.DEEDS)
        for many in range(len(self.DEEDS)):
            self.assertEqual(warehouse.history[-1], self.DEEDS[-1 - many])
            self.assertIsNone(warehouse.undo())
        self.assertEqual(shown(warehouse), before)

    def test_no_watch(self):
        warehouse = made()
        warehouse.do_all(*FACTS, watch=None)
        self.assertEqual(len(warehouse), 3)


class UndoTest(StoreCase):
    def test_down_to_the_empty_history(self):
        deeds = (("put", 0, *LAND), ("put", 1, *GOODS), *FACTS, ("put", 0), ("clear", ("s", "x")))
        warehouse = Warehouse(SHOPS, ITEMS, views=VIEWS)
        pictures = [shown(warehouse)]
        for deed in deeds:
            warehouse.do(deed)
            pictures.append(shown(warehouse))
        while len(pictures) > 1:
            pictures.pop()
            self.assertIsNone(warehouse.undo())
            self.assertEqual(shown(warehouse), pictures[-1])
        for _ in range(2):
            self.raises(NothingToUndo, {}, warehouse.undo)
            self.assertEqual(shown(warehouse), pictures[0])

    def test_facts_given_again_come_back(self):
        warehouse = made(*FACTS, ("fact", ("s", "x"), 50), ("clear", ("s", "x")))
        warehouse.undo()
        self.same(warehouse.ask(("shop", "item"), ("s", "x")), 50)
        warehouse.undo()
        self.same(warehouse.ask(("shop", "item"), ("s", "x")), 5)


class ViewsTest(StoreCase):
    def test_assigning_is_no_deed_and_is_not_undone(self):
        warehouse = made(*FACTS)
        history, dataset = warehouse.history, warehouse.dataset
        views = (("*", "*"), ("city", "item"))
        warehouse.views = views
        self.assertIs(warehouse.views, views)
        self.assertEqual([warehouse.history, warehouse.dataset], [history, dataset])
        self.check_tables(warehouse)
        warehouse.undo()
        self.assertIs(warehouse.views, views)
        self.same(warehouse.kept(("*", "*")), ((("*", "*"), 3),))
        self.assertIsNone(set_views(warehouse, ()))
        self.same([warehouse.views, repr(warehouse)], [(), "Warehouse(2 dimensions, 2 facts, 0 views)"])
        with self.assertRaises(NotDetermined) as caught:
            warehouse.ask(("*", "*"), ("*", "*"))
        self.check_spot(warehouse.cube, ("*", "*"), (), "total", caught.exception.blind_spot)

    def test_ten_views(self):
        warehouse = made(*FACTS)
        views = tuple(spots.views_of(warehouse.cube))[:10]
        warehouse.views = views
        self.assertEqual(len(warehouse.views), 10)
        self.check_tables(warehouse)

    def test_by_name(self):
        warehouse = made()
        set_views(views=(("*", "*"),), warehouse=warehouse)
        self.same(warehouse.views, (("*", "*"),))


class AskTest(StoreCase):
    def test_kept(self):
        warehouse = made(*FACTS)
        self.same(warehouse.kept(("city", "*")), ((("c", "*"), 14), (("d", "*"), 0)))
        self.same(warehouse.kept(view=("*", "kind")), ((("*", "k"), 16),))
        wrong = [("zone", "*"), ("*", "*"), ["city", "*"], ("city",), "city", (), ("*",), (Sly(), "*"), VIEWS]
        for value in odd_values() + wrong + [Sly()]:
            with self.subTest(value=value):
                self.raises(NotStored, {"value": value}, warehouse.kept, value)
                self.raises(NotStored, {"value": value}, warehouse.kept, view=value)

    def test_ask_and_sources(self):
        warehouse = made(*FACTS)
        self.same([warehouse.ask(("zone", "*"), ("z", "*")), warehouse.ask(("*", "item"), ("*", "y"))], [11, -2])
        self.same(warehouse.sources(cell=("s", "y"), view=("shop", "item")), ((0, ("s", "y"), 1, 1),))

    def both(self, error, fields, warehouse, *args, **named):
        """Check the error of both methods and of the function that asks what would be."""
        self.raises(error, fields, warehouse.ask, *args, **named)
        self.raises(error, fields, warehouse.sources, *args, **named)
        self.raises(error, fields, what_if, warehouse, *args, **named)

    def test_values_that_are_no_views(self):
        warehouse = made(*FACTS)
        for value in odd_values() + [Sly(), ("land",), ["land", "*"], ("item", "shop"), ("*", "*", "*"), (Sly(), "*")]:
            with self.subTest(value=value):
                self.both(InvalidView, {"value": value}, warehouse, value, ("*", "*"))
                self.both(InvalidView, {"value": value}, warehouse, cell=5, view=value)
                self.raises(InvalidView, {"value": value}, what_if, warehouse, value, 5, 5, ("clear", 5))

    def test_values_that_are_no_cells(self):
        warehouse = made(*FACTS)
        for value in odd_values() + [Sly(), ("s", "*"), ["l", "*"], ("l", "k"), ("l",), ("*", "*"), ("l", Sly())]:
            with self.subTest(value=value):
                self.both(InvalidCell, {"value": value}, warehouse, ("land", "*"), value)
                self.both(InvalidCell, {"value": value}, warehouse, cell=value, view=("land", "*"))

    def test_too_many(self):
        warehouse = Warehouse(SIXTY, SIXTY, views=(("*", "*"),))
        warehouse.do(("put", 0, ("b", "b", "x", ())))
        self.both(TooMany, {"limit": 60}, warehouse, ("*", "*"), ("*", "*"))
        self.both(InvalidCell, {"value": ("*", "b")}, warehouse, ("*", "*"), ("*", "b"))
        warehouse = Warehouse(SIXTY)
        with self.assertRaises(NotDetermined):
            warehouse.ask(("*",), ("*",))
        warehouse.views = (("a",),)
        self.same(warehouse.ask(("*",), ("*",)), 0)

    def test_not_determined_comes_last(self):
        warehouse = made(*FACTS, views=(("zone", "item"),))
        for view, cell in ((("land", "*"), ("l", "*")), (("city", "kind"), ("c", "k")), (("*", "*"), ("*", "*"))):
            for call in (warehouse.ask, warehouse.sources):
                with self.assertRaises(NotDetermined) as caught:
                    call(view, cell)
                self.check_spot(warehouse.cube, view, warehouse.views, "total", caught.exception.blind_spot)
            self.both(InvalidCell, {"value": ("nix", "*")}, warehouse, view, ("nix", "*"))

    def test_a_view_that_nothing_passes(self):
        schema = Schema("a", ("a", "b"), rules=(("a", ~Reaches("b")),))
        warehouse = Warehouse(schema)
        warehouse.do(("put", 0, ("x", "b", None, ()), ("y", "a", None, ())))
        self.same([warehouse.ask(("b",), ("x",)), warehouse.sources(("b",), ("x",))], [0, ()])


class WhatIfTest(StoreCase):
    def test_what_would_be(self):
        warehouse = made(*FACTS)
        before = shown(warehouse)
        deeds = (("put", 0, ("v", "shop", None, ("z",))), ("fact", ("v", "y"), 1000), ("clear", ("t", "x")))
        self.same(what_if(warehouse, ("zone", "*"), ("z", "*"), *deeds), 1000)
        self.same(what_if(warehouse, ("*", "item"), ("*", "x"), *deeds), 5)
        self.same(what_if(warehouse, ("shop", "item"), ("v", "y"), *deeds[:2]), 1000)
        self.same(what_if(warehouse, ("zone", "*"), ("z", "*")), 11)
        self.same(what_if(cell=("z", "*"), view=("zone", "*"), warehouse=warehouse), 11)
        self.assertEqual(shown(warehouse), before)

    def test_the_cell_is_one_after_the_deeds(self):
        warehouse = made(*FACTS)
        self.raises(InvalidCell, {"value": ("v", "y")}, what_if, warehouse, ("shop", "item"), ("v", "y"))
        gone = (("clear", ("s", "x")), ("clear", ("s", "y")), ("remove", 0, "s"))
        self.same(what_if(warehouse, ("shop", "item"), ("s", "y"), *gone[:2]), 0)
        self.raises(InvalidCell, {"value": ("s", "y")}, what_if, warehouse, ("shop", "item"), ("s", "y"), *gone)

    def test_the_order_of_errors(self):
        warehouse = made(*FACTS, views=(("zone", "item"),))
        before = shown(warehouse)
        bad, wrong = ("clear", ("nix", "x")), ("clear",)
        self.raises(NotAWarehouse, {"value": 5}, what_if, 5, 5, 5, bad, wrong)
        self.raises(InvalidView, {"value": 5}, what_if, warehouse, 5, 5, bad, wrong)
        self.raises(InvalidDeed, {"index": 1}, what_if, warehouse, ("land", "*"), 5, bad, wrong)
        self.raises(MissingFact, {"value": ("nix", "x")}, what_if, warehouse, ("land", "*"), 5, ("put", 0), bad)
        self.raises(InvalidCell, {"value": 5}, what_if, warehouse, ("land", "*"), 5, ("put", 0))
        with self.assertRaises(NotDetermined):
            what_if(warehouse, ("land", "*"), ("l", "*"), ("put", 0))
        self.assertEqual(shown(warehouse), before)
        great = Warehouse(SIXTY, SIXTY)
        self.raises(MissingFact, {"value": 5}, what_if, great, ("*", "*"), 5, ("clear", 5))
        self.raises(InvalidCell, {"value": 5}, what_if, great, ("*", "*"), 5, ("put", 0))
        self.raises(TooMany, {"limit": 60}, what_if, great, ("*", "*"), ("*", "*"), ("put", 0))
        self.same([great.history, len(great)], [(), 0])

    def test_random_deeds(self):
        chance = random.Random(105)
        for _, cube, wanted, stored in sights.random_cubes(106, 40, most=20):
            views = tuple(dict.fromkeys((*stored, wanted)))[:10]
            warehouse, other = Warehouse(*cube.schemas, views=views), Warehouse(*cube.schemas, views=views)
            stock = Stock(cube.schemas)
            for _ in range(6):
                deeds, later = [], stock
                for _ in range(4):
                    deed = random_deed(chance, later, ["x"])
                    if has_form(deed, len(cube)) and later.wrong(deed) is None:
                        deeds.append(deed)
                        later = later.after(deed)
                other.do_all(*deeds)
                before = shown(warehouse)
                for cell in itertools.islice(other.dataset.cells(wanted), 3):
                    self.same(what_if(warehouse, wanted, cell, *deeds), other.ask(wanted, cell))
                self.assertEqual(shown(warehouse), before)
                warehouse.do_all(*deeds)
                stock = later


class GivenTest(StoreCase):
    def test_what_is_given_stays(self):
        entries = [("ba", "city", "old", ("l",)), ("l", "land", None, ()), ("s", "shop", None, ("ba",))]
        deed = ("put", 0, *entries)
        warehouse = Warehouse(SHOPS)
        warehouse.do(deed)
        self.same(deed, ("put", 0, ("ba", "city", "old", ("l",)), ("l", "land", None, ()), ("s", "shop", None, ("ba",))))
        self.assertIs(warehouse.history[0], deed)
        dataset = warehouse.dataset
        warehouse.do(("fact", ("s",), 5))
        self.same([len(dataset), len(warehouse.dataset)], [0, 1])

    def test_two_warehouses_are_apart(self):
        first, second = made(*FACTS), made(*FACTS)
        first.do(("clear", ("s", "x")))
        first.views = ()
        self.same([len(second), len(second.history), second.views], [3, 5, VIEWS])
        self.check_tables(second)

    def test_many_members(self):
        warehouse = Warehouse(SHOPS, views=(("city",), ("land",)))
        entries = [("l", "land", None, ())] + [(f"c{at}", "city", "old", ("l",)) for at in range(20)]
        entries += [(f"s{at}", "shop", None, (f"c{at % 20}",)) for at in range(170)]
        warehouse.do(("put", 0, *entries))
        warehouse.do_all(*[("fact", (f"s{at}",), at) for at in range(170)])
        self.same(warehouse.ask(("land",), ("l",)), sum(range(170)))
        self.check_tables(warehouse)
        self.assertEqual(places.level_of(warehouse.dataset.hierarchies[0].entries, "s5"), "shop")


if __name__ == "__main__":
    unittest.main()
