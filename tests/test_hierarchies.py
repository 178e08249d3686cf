"""Hierarchies: their members, what these reach and see, and the rules that they keep."""

import itertools
import random
import unittest

from raggedtotals.conditions import Any, Marked, Not, One, Reaches, Via, Way
from raggedtotals.errors import (
    BrokenRule, InvalidLevel, InvalidMembers, InvalidParents, NotAllowed, NotAShape, NotASchema, TwoAncestors,
    UnknownMember,
)
from raggedtotals.hierarchies import Hierarchy, example_of
from raggedtotals.schemas import Schema
from raggedtotals.shapes import Shape
from tests import model, places
from tests.helpers import Case, odd_values
from tests.places import Sly
from tests.test_consequences import random_schemas

WORLD = Schema("city", ("city", "state"), ("city", "country"), ("state", "country"))
JAPAN = (
    ("jp", "country", None, ()), ("kanto", "state", None, ("jp",)), ("edo", "city", None, ("kanto",)),
    ("oki", "city", None, ("jp",)),
)
MARKED = Schema("shop", ("shop", "city"), ("shop", "zone"), ("city", "zone"), marks=(("city", "old", "new"),))


def both(check, error, fields, schema, *members):
    """Check that a hierarchy of these members raises an error, however it is made."""
    check.raises(error, fields, Hierarchy, schema, *members)
    check.raises(error, fields, Hierarchy.of, schema, members)
    check.raises(error, fields, Hierarchy.of, members=members, schema=schema)


class ExampleTest(Case):
    def test_first(self):
        hierarchy = Hierarchy(WORLD, *JAPAN)
        found = [
            hierarchy.entry("edo"), str(hierarchy.shape("edo")), hierarchy.ancestor("oki", "state"),
            hierarchy.below("jp", "city"), hierarchy.below("jp", "country"), list(hierarchy), len(hierarchy),
            repr(hierarchy),
        ]
        self.same(found, [
            ("edo", "city", None, ("kanto",)), "city city>state state>country", None, ("edo", "oki"), ("jp",),
            ["edo", "jp", "kanto", "oki"], 4, "Hierarchy(4 members)",
        ])

    def test_second(self):
        schema = Schema("city", ("city", "state"))
        self.same(example_of(schema, Shape("city", ("city", "state"))).entries,
                  (("city", "city", None, ("state",)), ("state", "state", None, ())))

    def test_third(self):
        members = (("a", "country", None, ()), ("b", "country", None, ()), ("s", "state", None, ("a",)),
                   ("c", "city", None, ("s", "b")))
        both(self, TwoAncestors, {"member": "c"}, WORLD, *members)


class CreationTest(Case):
    def test_members_in_any_order(self):
        for members in itertools.permutations(JAPAN):
            hierarchy = Hierarchy(WORLD, *members)
            self.same(hierarchy.entries, (JAPAN[2], JAPAN[0], JAPAN[1], JAPAN[3]))
            self.assertEqual(hierarchy.schema, WORLD)
            self.assertEqual(hierarchy, Hierarchy.of(WORLD, members))
            self.assertEqual(hierarchy, Hierarchy.of(members=members, schema=WORLD))

    def test_parents_in_any_order(self):
        schema = Schema("a", ("a", "b"), ("a", "c"), ("a", "d"))
        uppers = (("x", "b", None, ()), ("x1", "c", None, ()), ("w", "d", None, ()))
        for parents in itertools.permutations(("x", "x1", "w")):
            hierarchy = Hierarchy(schema, ("m", "a", None, parents), *uppers)
            self.same(hierarchy.entry("m"), ("m", "a", None, ("w", "x", "x1")))
            self.same(hierarchy.entries, (("m", "a", None, ("w", "x", "x1")), uppers[2], uppers[0], uppers[1]))
            self.same(str(hierarchy.shape("m")), "a a>b a>c a>d")

    def test_no_members(self):
        for hierarchy in (Hierarchy(WORLD), Hierarchy(schema=WORLD), Hierarchy.of(WORLD, ())):
            self.same([hierarchy.entries, len(hierarchy), list(hierarchy), bool(hierarchy), repr(hierarchy)],
                      [(), 0, [], False, "Hierarchy(0 members)"])
            self.same([hierarchy.members(level) for level in WORLD.levels], [(), (), ()])

    def test_names_that_begin_with_others(self):
        schema = Schema("a", ("a", "ab"), ("ab", "ab1"))
        members = (("a", "ab", None, ("ab",)), ("ab", "ab1", None, ()), ("aa", "a", None, ("a",)),
                   ("a1", "a", None, ("a",)), ("ab1", "a", None, ()))
        hierarchy = Hierarchy(schema, *members)
        self.same(list(hierarchy), ["a", "a1", "aa", "ab", "ab1"])
        self.same([hierarchy.below("ab", "a"), hierarchy.below("a", "a"), hierarchy.members("a")],
                  [("a1", "aa"), ("a1", "aa"), ("a1", "aa", "ab1")])

    def test_marks(self):
        hierarchy = Hierarchy(MARKED, ("c", "city", "old", ()), ("d", "city", "new", ("z",)), ("z", "zone", None, ()),
                              ("s", "shop", None, ("d",)), ("t", "shop", None, ("d", "z")))
        self.same([str(hierarchy.shape(name)) for name in hierarchy],
                  ["city city=old", "city city>zone city=new", "shop city>zone shop>city city=new",
                   "shop city>zone shop>city shop>zone city=new", "zone"])

    def test_what_is_given_stays(self):
        schema = Schema("a", ("a", "b"), ("a", "c"))
        members = (("z", "a", None, ("y", "x")), ("x", "c", None, ()), ("y", "b", None, ()))
        Hierarchy.of(schema, members)
        Hierarchy(schema, *members)
        self.same(members, (("z", "a", None, ("y", "x")), ("x", "c", None, ()), ("y", "b", None, ())))

    def test_many_members(self):
        cities = [(f"c{at}", "city", None, (f"s{at % 9}",) if at % 3 else ("jp",)) for at in range(190)]
        states = [(f"s{at}", "state", None, ("jp",)) for at in range(9)]
        hierarchy = Hierarchy(WORLD, *cities, *states, JAPAN[0])
        self.same([len(hierarchy), len(hierarchy.below("jp", "city")), hierarchy.below("s1", "city")[:3]],
                  [200, 190, ("c1", "c10", "c100")])
        self.same(hierarchy.ancestor("c10", "state"), "s1")


class WrongFormTest(Case):
    def test_values_that_are_no_schemas(self):
        for value in odd_values() + [str(WORLD), Hierarchy(WORLD), Sly(), None]:
            if isinstance(value, Schema):
                continue
            fields = {"value": value}
            with self.subTest(value=value):
                self.raises(NotASchema, fields, Hierarchy, value)
                self.raises(NotASchema, fields, Hierarchy, value, 5)
                self.raises(NotASchema, fields, Hierarchy, schema=value)
                self.raises(NotASchema, fields, Hierarchy.of, value, [])
                self.raises(NotASchema, fields, Hierarchy.of, members=5, schema=value)
                self.raises(NotASchema, fields, example_of, value, 5)

    def test_members_that_are_no_tuple(self):
        for value in odd_values() + [list(JAPAN), [], "", {}, Hierarchy(WORLD), Sly()]:
            if not isinstance(value, tuple):
                with self.subTest(value=value):
                    self.raises(InvalidMembers, {"index": None}, Hierarchy.of, WORLD, value)

    def test_elements_that_are_no_entries(self):
        wrong = odd_values() + [
            Sly(), list(JAPAN[0]), ("a", "city", None), ("a", "city", None, (), ()), ("a", "city", ()), JAPAN,
            ("a", "city", None, ["jp"]), ("a", "city", None, "jp"), ("a", "city", None, None), ("a", "city", None, []),
            ("a", "city", None, ("jp", "jp")), ("a", "city", None, ("s", "jp", "s")), ("a", "city", None, ("Jp",)),
            ("a", "city", None, (None,)), ("a", "city", None, (("jp",),)), ("a", "city", None, (["jp"],)),
            ("a", "city", None, {"jp"}), ("a", "city", None, {"jp": 1}), ("a", "city", None, ("",)),
            ("a", "city", "x", ()), ("a", "city", "", ()), ("a", "city", False, ()), ("a", "city", (), ()),
            ("a", "zone", None, ()), ("a", "cit", None, ()), ("a", "*", None, ()), ("a", None, None, ()),
            ("city", "a", None, ()), ("a", ("city",), None, ()), ("a", WORLD, None, ()), ("", "city", None, ()),
            ("*", "city", None, ()), ("A", "city", None, ()), ("ninechars", "city", None, ()), (1, "city", None, ()),
        ]
        wrong.extend([(value, "city", None, ()) for value in odd_values() + [Sly()]])
        wrong.extend([("a", value, None, ()) for value in odd_values() + [Sly()]])
        wrong.extend([("a", "city", value, ()) for value in odd_values() + [Sly()] if value is not None])
        wrong.extend([("a", "city", None, (value,)) for value in odd_values() + [Sly()]])
        wrong.extend([("a", "city", None, value) for value in odd_values() + [Sly()] if not are_parents(value)])
        for value in wrong:
            with self.subTest(value=value):
                both(self, InvalidMembers, {"index": 0}, WORLD, value)
                both(self, InvalidMembers, {"index": 0}, WORLD, value, value, *JAPAN)
                both(self, InvalidMembers, {"index": 2}, WORLD, *JAPAN[:2], value, 5, JAPAN[0])
                both(self, InvalidMembers, {"index": 4}, WORLD, *JAPAN, value)

    def test_marks_of_a_level_with_marks(self):
        for value in odd_values() + ["older", "ol", "shop", Sly()]:
            with self.subTest(value=value):
                both(self, InvalidMembers, {"index": 0}, MARKED, ("c", "city", value, ()))
                both(self, InvalidMembers, {"index": 1}, MARKED, ("z", "zone", None, ()), ("c", "city", value, ("z",)))
        both(self, InvalidMembers, {"index": 0}, MARKED, ("z", "zone", "old", ()))

    def test_names_that_came_before(self):
        both(self, InvalidMembers, {"index": 1}, WORLD, JAPAN[0], JAPAN[0])
        both(self, InvalidMembers, {"index": 4}, WORLD, *JAPAN, ("jp", "city", None, ()), 5)
        both(self, InvalidMembers, {"index": 2}, WORLD, ("a", "city", None, ("x",)), ("b", "city", None, ()),
             ("a", "state", None, ()))


def are_parents(value):
    """Whether a value is a tuple of different names."""
    good = isinstance(value, tuple) and all(isinstance(name, str) and name.islower() for name in value)
    return good and len(set(value)) == len(value)


class WrongParentsTest(Case):
    def test_parents_that_are_no_members(self):
        both(self, InvalidParents, {"member": "edo"}, WORLD, JAPAN[0], JAPAN[2])
        both(self, InvalidParents, {"member": "kanto"}, WORLD, *JAPAN[1:])
        both(self, InvalidParents, {"member": "oki"}, WORLD, *reversed(JAPAN[1:]))
        both(self, InvalidParents, {"member": "a"}, WORLD, ("a", "city", None, ("city",)), ("b", "state", None, ()))

    def test_parents_of_levels_without_a_link(self):
        for entry in (("x", "country", None, ("jp",)), ("x", "country", None, ("kanto",)), ("x", "state", None, ("edo",)),
                      ("x", "city", None, ("edo",)), ("x", "city", None, ("jp", "edo")), ("x", "state", None, ("kanto",)),
                      ("x", "city", None, ("x",)), ("x", "state", None, ("jp", "nobody"))):
            with self.subTest(entry):
                both(self, InvalidParents, {"member": "x"}, WORLD, *JAPAN, entry)
                both(self, InvalidParents, {"member": "x"}, WORLD, entry, *JAPAN)

    def test_circles_of_members(self):
        both(self, InvalidParents, {"member": "a"}, WORLD, ("b", "city", None, ("a",)), ("a", "state", None, ("b",)))
        both(self, InvalidParents, {"member": "b"}, WORLD, ("b", "city", None, ("a",)), ("a", "city", None, ("b",)))

    def test_the_first_in_the_order_of_the_arguments(self):
        wrong = (("z", "city", None, ("q",)), ("a", "city", None, ("q",)), ("m", "country", None, ("jp",)))
        for entries in itertools.permutations(wrong + JAPAN[:1]):
            first = [entry[0] for entry in entries if entry[0] != "jp"][0]
            both(self, InvalidParents, {"member": first}, WORLD, *entries)


class TwoAncestorsTest(Case):
    def test_one_ancestor_by_more_than_one_way(self):
        hierarchy = Hierarchy(WORLD, *JAPAN[:2], ("c", "city", None, ("jp", "kanto")))
        self.same([str(hierarchy.shape("c")), hierarchy.ancestor("c", "country")],
                  ["city city>country city>state state>country", "jp"])

    def test_two_parents_of_one_level(self):
        members = (("a", "state", None, ()), ("b", "state", None, ()), ("c", "city", None, ("b", "a")))
        both(self, TwoAncestors, {"member": "c"}, WORLD, *members)
        both(self, TwoAncestors, {"member": "c"}, WORLD, *reversed(members))

    def test_members_below_have_two_as_well(self):
        schema = Schema("a", ("a", "b"), ("b", "c"), ("c", "d"), ("b", "e"), ("e", "d"))
        members = (("a", "a", None, ("b",)), ("b", "b", None, ("c", "e")), ("c", "c", None, ("d",)),
                   ("e", "e", None, ("d2",)), ("d", "d", None, ()), ("d2", "d", None, ()), ("x", "a", None, ()))
        for entries in itertools.permutations(members, 7):
            first = [entry[0] for entry in entries if entry[0] in "ab"][0]
            self.raises(TwoAncestors, {"member": first}, Hierarchy, schema, *entries)
        self.same(len(Hierarchy(schema, *members[:3], ("e", "e", None, ("d",)), *members[4:])), 7)

    def test_many_ways_to_one_member(self):
        levels = [f"l{at}" for at in range(8)]
        uppers = {level: tuple(levels[at + 1:at + 3]) for at, level in enumerate(levels)}
        links = [(level, upper) for level in levels for upper in uppers[level]]
        rules = tuple((lower, Way(upper)) for lower, upper in links)
        members = [(f"m{level}", level, None, tuple(f"m{upper}" for upper in uppers[level])) for level in levels]
        hierarchy = Hierarchy(Schema("l0", *links, rules=rules), *members)
        self.same([len(hierarchy), hierarchy.ancestor("ml0", "l7"), hierarchy.below("ml7", "l0")], [8, "ml7", ("ml0",)])


class BrokenRuleTest(Case):
    RULED = Schema("city", ("city", "state"), ("city", "country"), ("state", "country"), marks=(("country", "x", "y"),),
                   rules=(("state", Reaches("country")), ("city", One(Reaches("state"), Way("country"))),
                          ("city", Not(Marked("country", "y"))), ("state", Not(Marked("country", "y"))),
                          ("city", Reaches("country"))))

    def test_the_first_rule_in_the_schema(self):
        for entries, member, index in (
            ((("a", "state", None, ()),), "a", 0), ((("a", "city", None, ()),), "a", 1),
            ((("a", "city", None, ("n",)), ("n", "country", "y", ())), "a", 2),
            ((("n", "country", "y", ()), ("s", "state", None, ("n",))), "s", 3),
            ((("c", "city", None, ("s",)), ("n", "country", "y", ()), ("s", "state", None, ("n",))), "c", 2),
            ((("s", "state", None, ("n",)), ("n", "country", "y", ()), ("c", "city", None, ("s",))), "s", 3),
            ((("c", "city", None, ("s", "n")), ("n", "country", "y", ()), ("s", "state", None, ("n",))), "c", 1),
            ((("c", "city", None, ("s",)), ("s", "state", None, ())), "c", 4),
            ((("s", "state", None, ()), ("c", "city", None, ("s",))), "s", 0),
        ):
            with self.subTest(entries):
                both(self, BrokenRule, {"member": member, "index": index}, self.RULED, *entries)

    def test_the_first_member_in_the_order_of_the_arguments(self):
        wrong = (("z", "city", None, ()), ("b", "state", None, ()), ("d", "city", None, ()))
        for entries in itertools.permutations(wrong + (("n", "country", "x", ()), ("s", "state", None, ("n",)))):
            first = [entry for entry in entries if entry in wrong][0]
            both(self, BrokenRule, {"member": first[0], "index": 0 if first[0] == "b" else 1}, self.RULED, *entries)

    def test_rules_speak_of_what_a_member_reaches(self):
        schema = Schema("a", ("a", "b"), ("b", "c"), rules=(("a", Via("b", "c")),))
        self.same(len(Hierarchy(schema, ("b", "b", None, ()), ("c", "c", None, ()))), 2)
        both(self, BrokenRule, {"member": "a", "index": 0}, schema, ("a", "a", None, ("b",)), ("b", "b", None, ()))

    def test_a_level_without_members_by_its_rules(self):
        schema = Schema("a", ("a", "b"), rules=(("b", Any()),))
        self.same(len(Hierarchy(schema, ("x", "a", None, ()))), 1)
        both(self, BrokenRule, {"member": "y", "index": 0}, schema, ("x", "a", None, ("y",)), ("y", "b", None, ()))


class OrderOfErrorsTest(Case):
    SCHEMA = Schema("city", ("city", "state"), ("city", "country"), ("state", "country"),
                    rules=(("city", Reaches("country")),))
    BROKEN = ("r", "city", None, ())
    TWO = ("t", "city", None, ("s1", "s2"))
    STATES = (("s1", "state", None, ()), ("s2", "state", None, ()))
    LOST = ("p", "city", None, ("nobody",))

    def test_each_error_in_all_members_before_the_next(self):
        rows = (self.BROKEN, self.TWO, *self.STATES, self.LOST)
        both(self, InvalidMembers, {"index": 5}, self.SCHEMA, *rows, self.BROKEN)
        both(self, InvalidMembers, {"index": 5}, self.SCHEMA, *rows, 5)
        both(self, InvalidParents, {"member": "p"}, self.SCHEMA, *rows)
        both(self, TwoAncestors, {"member": "t"}, self.SCHEMA, *rows[:4])
        both(self, BrokenRule, {"member": "r", "index": 0}, self.SCHEMA, self.BROKEN, *self.STATES)
        both(self, NotASchema, {"value": None}, None, *rows)


class QuestionTest(Case):
    def test_values_that_are_no_members(self):
        hierarchy = Hierarchy(WORLD, *JAPAN)
        for value in odd_values() + ["nobody", "city", "ed", "edo1", "*", Sly(), ("edo",), ["edo"]]:
            fields = {"value": value}
            with self.subTest(value=value):
                self.raises(UnknownMember, fields, hierarchy.entry, value)
                self.raises(UnknownMember, fields, hierarchy.shape, value)
                self.raises(UnknownMember, fields, hierarchy.ancestor, value, "city")
                self.raises(UnknownMember, fields, hierarchy.ancestor, level=5, name=value)
                self.raises(UnknownMember, fields, hierarchy.below, value, "zone")
                self.raises(UnknownMember, fields, hierarchy.below, level="city", name=value)
                self.assertIs(value in hierarchy, False)

    def test_values_that_are_no_levels(self):
        hierarchy = Hierarchy(WORLD, *JAPAN)
        for value in odd_values() + ["zone", "edo", "jp", "cit", "*", Sly(), ("city",), ["city"]]:
            fields = {"value": value}
            with self.subTest(value=value):
                self.raises(InvalidLevel, fields, hierarchy.members, value)
                self.raises(InvalidLevel, fields, hierarchy.members, level=value)
                self.raises(InvalidLevel, fields, hierarchy.ancestor, "edo", value)
                self.raises(InvalidLevel, fields, hierarchy.below, "jp", level=value)

    def test_arguments_by_name(self):
        hierarchy = Hierarchy(WORLD, *JAPAN)
        found = [hierarchy.entry(name="jp"), str(hierarchy.shape(name="jp")), hierarchy.members(level="state"),
                 hierarchy.ancestor(level="country", name="edo"), hierarchy.below(level="city", name="kanto")]
        self.same(found, [JAPAN[0], "country", ("kanto",), "jp", ("edo",)])

    def test_members_in_and_over(self):
        hierarchy = Hierarchy(WORLD, *JAPAN)
        self.same([name in hierarchy for name in ("edo", "jp", "kanto", "oki", "ok")], [True, True, True, True, False])
        self.same([list(hierarchy), [*hierarchy], sorted(hierarchy, reverse=True), bool(hierarchy)],
                  [["edo", "jp", "kanto", "oki"]] * 2 + [["oki", "kanto", "jp", "edo"], True])
        self.same([[one + other for one in hierarchy for other in hierarchy if one < other][:2]], [["edojp", "edokanto"]])

    def test_as_searched_through(self):
        sizes = []
        for chance, schema, _, _, _ in random_schemas(7, 120):
            entries = places.random_entries(chance, schema, chance.randint(0, 8))
            hierarchy = Hierarchy(schema, *entries)
            self.same(hierarchy.entries, tuple(sorted(entries)))
            sizes.append(len(hierarchy))
            for level in schema.levels:
                self.same(hierarchy.members(level), tuple(sorted(entry[0] for entry in entries if entry[1] == level)))
            for name in hierarchy:
                self.check_member(schema, entries, hierarchy, name)
        self.assertTrue(max(sizes) > 12 and sizes.count(0) > 3)

    def check_member(self, schema, entries, hierarchy, name):
        """Check what is told of a member."""
        self.same(hierarchy.entry(name), places.entry_of(entries, name))
        self.same(str(hierarchy.shape(name)), model.text_of_plain(places.plain_shape(entries, name)))
        self.assertIs(schema.allows(hierarchy.shape(name)), True)
        for level in schema.levels:
            found = places.ancestors(entries, name, level)
            self.assertTrue(len(found) < 2)
            self.same(hierarchy.ancestor(name, level), found[0] if found else None)
            self.same(hierarchy.below(name, level), tuple(places.descendants(entries, name, level)))

    def test_changed_hierarchies_as_searched_through(self):
        kinds = {}
        for chance, schema, _, _, trees in random_schemas(8, 2000):
            entries = places.random_entries(chance, schema, chance.randint(2, 5), again=0.3)
            if not entries:
                continue
            at = chance.randrange(len(entries))
            linked = [entry[0] for entry in entries if (entries[at][1], entry[1]) in schema.links]
            names = linked if chance.random() < 0.9 else [entry[0] for entry in entries]
            others = chance.sample(names, min(len(names), chance.randint(0, 3)))
            parents = tuple(others) if chance.random() < 0.5 else tuple(sorted({*entries[at][3], *others[:1]}))
            marks = schema.marks_of(entries[at][1]) or (None,)
            entries[at] = entries[at][:2] + (chance.choice(marks), parents)
            error = first_error(schema, entries, trees)
            kinds[error and error[0]] = kinds.get(error and error[0], 0) + 1
            if error is None:
                self.same(Hierarchy(schema, *entries).entries,
                          tuple(sorted((*entry[:3], tuple(sorted(entry[3]))) for entry in entries)))
            else:
                both(self, error[0], error[1], schema, *entries)
        self.assertTrue(len(kinds) == 4 and min(kinds.values()) > 9, kinds)

    def test_equality(self):
        schema = Schema("city", ("city", "state"))
        rows = [(), (("a", "city", None, ()),), (("b", "city", None, ()),), (("a", "state", None, ()),),
                (("a", "city", None, ("b",)), ("b", "state", None, ())),
                (("a", "city", None, ()), ("b", "state", None, ()))]
        hierarchies = [Hierarchy(schema, *members) for members in rows]
        for (at, first), (place, second) in itertools.product(enumerate(hierarchies), enumerate(hierarchies)):
            self.assertIs(first == second, at == place)
            self.assertIs(first != second, at != place)
        again = Hierarchy(Schema.read(str(schema)), *reversed(rows[4]))
        self.assertIs(hierarchies[4] == again, True)
        other = schema.with_rule("city", Reaches("city"))
        self.assertIs(hierarchies[0] == Hierarchy(other), False)
        self.assertIs(hierarchies[1] != Hierarchy(other, *rows[1]), True)

    def test_never_equal_to_another_class(self):
        hierarchy = Hierarchy(WORLD, *JAPAN)
        for value in odd_values() + [hierarchy.entries, list(hierarchy), WORLD, tuple(hierarchy)]:
            self.assertIs(hierarchy == value, False)
            self.assertIs(hierarchy != value, True)

    def test_properties_cannot_be_assigned(self):
        hierarchy = Hierarchy(WORLD, *JAPAN)
        for name in ("schema", "entries"):
            with self.assertRaises(AttributeError):
                setattr(hierarchy, name, ())
        self.assertEqual(hierarchy, Hierarchy(WORLD, *JAPAN))

    def test_repr(self):
        self.same(repr(Hierarchy(WORLD, JAPAN[0])), "Hierarchy(1 members)")


def first_error(schema, entries, trees):
    """The class and the fields of the first error of these entries, which have the right form; None without one."""
    rows = {entry[0]: entry for entry in entries}
    for name, level, _, parents in entries:
        if any(parent not in rows or (level, rows[parent][1]) not in schema.links for parent in parents):
            return InvalidParents, {"member": name}
    for name in rows:
        if any(len(places.ancestors(entries, name, level)) > 1 for level in schema.levels):
            return TwoAncestors, {"member": name}
    for name in rows:
        plain = places.plain_shape(entries, name)
        for index, (level, tree) in enumerate(trees):
            if level == plain[0] and not model.truth(tree, plain):
                return BrokenRule, {"member": name, "index": index}
    return None


class ExampleOfTest(Case):
    def test_every_allowed_shape_has_an_example(self):
        count = 0
        for _, schema, _, _, _ in random_schemas(9, 80):
            for level in schema.levels:
                for shape in schema.shapes(level):
                    hierarchy = example_of(schema, shape)
                    self.assertEqual(hierarchy.schema, schema)
                    self.assertEqual(hierarchy.shape(level), shape)
                    self.same([tuple(hierarchy), hierarchy], [shape.levels, example_of(shape=shape, schema=schema)])
                    self.same([hierarchy.entry(name)[1] for name in hierarchy], list(shape.levels))
                    count += 1
        self.assertTrue(count > 100)

    def test_shapes_that_are_not_allowed(self):
        schema = Schema("a", ("a", "b"), marks=(("b", "x", "y"),), rules=(("a", Reaches("b")),))
        for text in ("a", "b", "a a>b", "b b=z", "a a>b a=x b=x", "c", "a a>c", "b b>c b=x", "a a>b b=z"):
            shape = Shape.read(text)
            self.raises(NotAllowed, {"value": shape}, example_of, schema, shape)
            self.raises(NotAllowed, {"value": shape}, example_of, shape=shape, schema=schema)
        self.same(example_of(schema, Shape.read("b b=x")).entries, (("b", "b", "x", ()),))

    def test_values_that_are_no_shapes(self):
        for value in odd_values() + ["city", WORLD, Sly()]:
            if not isinstance(value, Shape):
                self.raises(NotAShape, {"value": value}, example_of, WORLD, value)
                self.raises(NotAShape, {"value": value}, example_of, shape=value, schema=WORLD)


class PromiseTest(Case):
    def test_shapes_of_members_are_allowed_and_allowed_shapes_are_those_of_members(self):
        for chance, schema, _, _, _ in random_schemas(10, 60):
            entries = []
            for level in schema.levels:
                for shape in schema.shapes(level):
                    places.put_in(chance, entries, shape)
            hierarchy = Hierarchy(schema, *entries)
            for level in schema.levels:
                found = {str(hierarchy.shape(name)) for name in hierarchy.members(level)}
                self.assertEqual(found, {str(shape) for shape in schema.shapes(level)})


if __name__ == "__main__":
    unittest.main()
