"""The checker: certificates of all kinds, whole and with one thing changed, and values of any kind."""

import itertools
import unittest

from raggedtotals.certificates import certify_follows, certify_greatest, certify_price, certify_totals
from raggedtotals.checker import holds
from raggedtotals.conditions import Reaches
from raggedtotals.cubes import Cube
from raggedtotals.schemas import Schema
from raggedtotals.shapes import Shape
from tests import model, proofs, sights, spots
from tests.helpers import Case, odd_values
from tests.places import Sly
from tests.test_consequences import random_schemas
from tests.test_counting import MARKED
from tests.test_sums import METRO, SIXTY, wide

WORDS = ("follows", "does not follow", "determined", "not determined", "greatest determined",
         "greatest not determined", "price")
TEXT = "base a\nlink a b\nrule a reaches(b)"
LISTED = ("b", "a a>b")
ROWS = ((("b",), ((0, ("a a>b",), 1, 1),)),)
TREE = (("x", "a", None, ("y",)), ("y", "b", None, ()))
OTHERS = (None, 0, "a", True, 1, (), "b")


class Angry:
    """A value that raises an error whatever is asked of it."""

    def __eq__(self, other):
        raise RuntimeError("asked")

    __ne__ = __lt__ = __len__ = __iter__ = __contains__ = __getitem__ = __bool__ = __str__ = __repr__ = __eq__
    __hash__ = None


class LooseText(str):
    """A string that says that it equals everything."""

    def __eq__(self, other):
        return True

    def __hash__(self):
        return 0


class LooseNumber(int):
    """An integer that says that it is whatever it is compared with."""

    def __eq__(self, other):
        return True

    __ge__ = __gt__ = __le__ = __lt__ = __eq__

    def __hash__(self):
        return 0


class LooseRow(tuple):
    """A tuple that has nothing when it is looked at again."""

    def __eq__(self, other):
        return True

    def __iter__(self):
        return iter(())

    def __hash__(self):
        return 0


def strange_values():
    """Values that no claim and no certificate may have anywhere."""
    odd = [value for value in odd_values() if type(value) not in (str, int, tuple) and value is not None]
    return odd + [Sly(), Angry(), LooseText("a"), LooseNumber(1), LooseRow((1, 2)), Cube(METRO), {1: 2}, [()], holds]


def put_at_each_place(value, strange):
    """The value with a strange one at each place within it, and in its own place."""
    yield strange
    if type(value) is tuple:
        for at, item in enumerate(value):
            for near in put_at_each_place(item, strange):
                yield (*value[:at], near, *value[at + 1:])
            yield (*value[:at], strange, *value[at:])
        yield (*value, strange)


class CheckerCase(Case):
    def judge(self, claim, certificate):
        """The answer of the checker, which is compared with the second reading."""
        found = holds(claim, certificate)
        self.assertIs(found, proofs.accepts(claim, certificate), (claim, certificate))
        return found

    def good(self, claim, certificate):
        self.assertIs(self.judge(claim, certificate), True, (claim, certificate))

    def bad(self, claim, certificate):
        self.assertIs(self.judge(claim, certificate), False, (claim, certificate))

    def near(self, chance, claim, certificate, most):
        """Judge some values near the certificate and near the claim; return how many of them were accepted."""
        found = 0
        for values, call in ((certificate, lambda near: self.judge(claim, near)),
                             (claim, lambda near: self.judge(near, certificate))):
            rows = list(proofs.near_values(values, OTHERS))
            for near in chance.sample(rows, min(len(rows), most)):
                found += call(near)
        return found


def small(cube):
    """Whether all shapes that fit can be counted out."""
    return all(len(schema.links) <= 6 for schema in cube.schemas)


class OwnCertificatesTest(CheckerCase):
    def test_rules(self):
        seen = {}
        for chance, schema, links, marks, _ in random_schemas(111, 60):
            if len(links) > 6:
                continue
            for _ in range(3):
                level = chance.choice(schema.levels)
                tree = model.random_tree(chance, schema.levels, ["x", "y"], 2)
                claim, certificate = certify_follows(schema, level, model.condition_of(tree))
                self.good(claim, certificate)
                self.near(chance, claim, certificate, 40)
                other = ("follows" if claim[0] == "does not follow" else "does not follow", *claim[1:])
                self.bad(other, certificate)
                for near in itertools.islice(proofs.near_values(certificate, OTHERS), 40):
                    self.bad(other, near)
                seen[claim[0]] = seen.get(claim[0], 0) + 1
        self.assertTrue(min(seen[word] for word in WORDS[:2]) > 20, seen)

    def test_views(self):
        seen = {}
        for chance, cube, wanted, stored in sights.random_cubes(112, 110, most=16):
            if not small(cube):
                continue
            for certify in (certify_totals, certify_greatest):
                claim, certificate = certify(cube, wanted, stored)
                self.good(claim, certificate)
                self.near(chance, claim, certificate, 40)
                seen[claim[0]] = seen.get(claim[0], 0) + 1
                for word in WORDS:
                    if word != claim[0]:
                        self.judge((word, *claim[1:]), certificate)
        self.assertTrue(min(seen[word] for word in WORDS[2:6]) > 20, seen)

    def test_prices(self):
        count = 0
        for chance, cube, wanted, _ in sights.random_cubes(113, 80, most=15):
            if not small(cube):
                continue
            views = spots.views_of(cube)
            candidates = tuple(chance.choice(views) for _ in range(chance.randint(1, 5)))
            prices = tuple(chance.randint(1, 4) for _ in candidates)
            found = certify_price(cube, (wanted,), candidates, prices)
            if found is not None:
                claim, certificate = found
                self.good(claim, certificate)
                self.bad((*claim[:5], claim[5] + 1), certificate)
                self.good((*claim[:5], claim[5] - 1), certificate)
                self.near(chance, claim, certificate, 60)
                count += len(certificate) > 0
        self.assertTrue(count > 15, count)

    def test_no_false_claim_is_accepted(self):
        # With certificates of other claims over the same cube, and what is near them.
        count = 0
        for chance, cube, wanted, stored in sights.random_cubes(114, 30, most=12):
            if not small(cube):
                continue
            views = spots.views_of(cube)
            questions = [(wanted, stored)] + [
                (wanted, tuple(chance.sample(views, min(len(views), size)))) for size in (0, 1, 2, 3)]
            found = [certify(cube, *question)[1] for question in questions
                     for certify in (certify_totals, certify_greatest)]
            pool = found + [near for value in found for near in itertools.islice(
                proofs.near_values(value, OTHERS), 12)]
            texts = tuple(str(schema) for schema in cube.schemas)
            for wished, seen in questions:
                for measure, good, bad in (("total", "determined", "not determined"),
                                           ("greatest", "greatest determined", "greatest not determined")):
                    true = spots.determined(cube, wished, seen, measure)
                    for certificate in pool:
                        self.assertIs(holds((bad if true else good, texts, wished, seen), certificate), False)
                        count += 1
        self.assertTrue(count > 2000, count)


class RuleClaimTest(CheckerCase):
    def test_each_near_value(self):
        claims = [
            (("follows", TEXT, "a", "way(b)"), LISTED), (("follows", TEXT, "b", "not(reaches(a))"), LISTED),
            (("does not follow", TEXT, "b", "reaches(a)"), "b"), (("does not follow", TEXT, "a", "marked(b, x)"), "a a>b"),
        ]
        for claim, certificate in claims:
            self.good(claim, certificate)
            for near in proofs.near_values(certificate, OTHERS):
                self.judge(claim, near)
            for near in proofs.near_values(claim, OTHERS):
                self.judge(near, certificate)

    def test_levels_and_conditions(self):
        self.bad(("follows", TEXT, "c", "all()"), LISTED)
        self.bad(("follows", TEXT, "a", "not(reaches(c))"), LISTED)
        self.bad(("follows", TEXT, "a", "reaches( b)"), LISTED)
        self.good(("follows", TEXT, "a", "not(marked(b, other))"), LISTED)
        self.bad(("does not follow", TEXT, "a", "not(reaches(b))"), "b")
        self.good(("does not follow", TEXT, "a", "not(reaches(b))"), "a a>b")
        self.bad(("does not follow", TEXT, "a", "not(reaches(b))"), "a")

    def test_texts_that_are_no_schemas(self):
        for text in ("", "base", TEXT + "\n", TEXT.replace("base a", "base c"), "base a\nrule a reaches(b)", "b"):
            self.bad(("follows", text, "a", "all()"), LISTED)
        great = "base a\n" + "\n".join(f"link a b{at}" for at in range(6))
        self.bad(("does not follow", great, "a", "any()"), "a")
        self.good(("does not follow", great.rpartition("\n")[0], "a", "any()"), "a")

    def test_lists_in_any_order_and_with_further_shapes(self):
        self.good(("follows", TEXT, "a", "way(b)"), LISTED[::-1])
        # A shape that fits and is not allowed may be listed, but then it must keep the condition, too.
        self.good(("follows", TEXT, "b", "all()"), ("a", *LISTED))
        self.bad(("follows", TEXT, "a", "way(b)"), ("a", *LISTED))
        self.bad(("follows", TEXT, "a", "way(b)"), (*LISTED, "b"))
        self.bad(("follows", TEXT, "a", "way(b)"), (*LISTED, "b b>c"))
        self.bad(("follows", TEXT, "a", "way(b)"), (*LISTED, "c"))

    def test_further_shapes_ask_for_those_below_them(self):
        text = "base a\nlink a b\nlink b c\nrule b reaches(c)"
        claim = ("follows", text, "c", "all()")
        self.good(claim, ("c", "b b>c", "a", "a a>b b>c"))
        self.bad(claim, ("c", "b b>c", "a", "a a>b b>c", "b"))
        self.good(claim, ("c", "b b>c", "a", "a a>b b>c", "b", "a a>b"))
        # Below a shape whose own parts are not listed nothing is asked for.
        self.good(claim, ("c", "b b>c", "a", "a a>b b>c", "a a>b"))
        more = "base a\nlink a b\nlink b c\nlink c d\nrule c reaches(d)\nrule b reaches(d)"
        known = ("d", "c c>d", "b b>c c>d", "a", "a a>b b>c c>d")
        self.good(("follows", more, "d", "all()"), known)
        self.good(("follows", more, "d", "all()"), (*known, "b b>c"))
        self.good(("follows", more, "d", "all()"), (*known, "c"))
        self.bad(("follows", more, "d", "all()"), (*known, "c", "b b>c"))
        self.good(("follows", more, "d", "all()"), (*known, "c", "b b>c", "a a>b b>c"))

    def test_random_lists(self):
        seen = {True: 0, False: 0}
        for chance, schema, links, _, _ in random_schemas(115, 60):
            if len(links) > 5:
                continue
            text = str(schema)
            known = proofs.fitting(text)
            for _ in range(8):
                listed = set(chance.sample(sorted(known), chance.randint(0, min(len(known), 12))))
                if chance.random() < 0.8:
                    more = True
                    while more:
                        more = [name for name, (_, parts, keeps) in known.items()
                                if keeps and name not in listed and listed.issuperset(parts)]
                        listed.update(more)
                if len(listed) > 300:
                    continue
                rows = sorted(listed)
                chance.shuffle(rows)
                if chance.random() < 0.2 and rows:
                    rows.pop()
                seen[self.judge(("follows", text, schema.base, "all()"), tuple(rows))] += 1
        self.assertTrue(min(seen.values()) > 60, seen)

    def test_parts_that_cannot_stand_together(self):
        # Below d with and without e nothing can be built from one b and another c.
        text = "base a\nlink a b\nlink a c\nlink b d\nlink c d\nlink d e\nmarks e x y\nrule b reaches(e)"
        for schema in (Schema.read(text), Schema.read(text + "\nrule c way(d)"), Schema.read(text + "\nrule d way(e)")):
            claim, certificate = certify_follows(schema, "b", Reaches("e"))
            self.good(claim, certificate)
            for at in range(len(certificate)):
                self.bad(claim, certificate[:at] + certificate[at + 1:])

    def test_marks(self):
        text = "base a\nlink a b\nmarks b x y\nrule a marked(b, x)"
        claim = ("follows", text, "a", "way(b)")
        self.good(claim, ("b b=x", "b b=y", "a a>b b=x"))
        self.bad(claim, ("b b=x", "a a>b b=x"))
        self.bad(claim, ("b", "b b=x", "b b=y", "a a>b b=x"))
        self.bad(claim, ("b b=z", "b b=x", "b b=y", "a a>b b=x"))
        self.good(claim, ("b b=x", "b b=y", "a a>b b=x", "a a>b b=y"))


class ViewClaimTest(CheckerCase):
    CLAIM = ("determined", (TEXT,), ("b",), (("a",), ("b",), ("*",)))

    def rows(self, *terms):
        """A certificate with these terms in the one row."""
        return (LISTED,), ((("b",), terms),)

    def test_forms_that_the_program_does_not_make(self):
        claim, one, two = self.CLAIM, ("a a>b",), ("b",)
        for terms in (
            ((0, one, 1, 1),), ((0, one, 3, 3),), ((0, one, 1, 2), (0, one, 1, 2)), ((1, two, 1, 2), (0, one, 2, 4)),
            ((0, one, 0, 5), (1, two, 7, 7)), ((1, two, 5, 1), (0, one, -8, 2), (1, two, 0, 1)),
            ((0, one, 10 ** 50, 10 ** 50),), ((0, one, 1, 1), (0, ("a a>b a>c c=x",), 5, 1)),
            ((0, one, 1, 3), (0, one, 1, 3), (0, one, 1, 3)),
        ):
            self.good(claim, self.rows(*terms))
            self.good(claim, self.rows(*terms[::-1]))

    def test_forms_that_are_wrong(self):
        claim, one = self.CLAIM, ("a a>b",)
        for terms in (
            (), ((0, one, 1, 2),), ((0, one, 2, 1),), ((0, one, -1, -1),), ((0, one, 1, 0),), ((0, one, 1, -1),),
            ((0, one, 1),), ((0, one, 1, 1, 1),), ((3, one, 1, 1),), ((-3, one, 1, 1),), ((1, one, 1, 1),),
            ((0, ("a",), 1, 1),), ((0, ("a",), 0, 1), (0, one, 1, 1)), ((2, ("*",), 0, 1), (0, one, 1, 1)),
            ((0, one, 1, 1), (0, ("*",), 0, 1)), ((0, "a a>b", 1, 1),), ((0, (one,), 1, 1),), ([0, one, 1, 1],),
            ((0, ("a a>b b=",), 0, 1), (0, one, 1, 1)), ((0, one, 1, 1), (0, ("a a>b", "*"), 0, 1)), ((0, one, "1", 1),),
            ((0, ("a a>b b>c",), 1, 1),), ((False, one, 1, 1),), ((0, one, True, 1),), ((0, one, 1, True),),
            ((0, one, 1, 1), ()), ((0, one, 1, 1), None), ((0, (), 1, 1),), ((0, one, None, 1),), ((None, one, 1, 1),),
        ):
            self.bad(claim, self.rows(*terms))

    def test_further_rows(self):
        good = (("b",), ((0, ("a a>b",), 1, 1),))
        more = (("b b>c",), ((0, ("a a>b b>c",), 5, 2), (0, ("a a>b b>c",), 5, 2)))
        empty = (("b b=x",), ())
        for rows in ((good, more), (more, good), (empty, good, more), (good, empty)):
            self.good(self.CLAIM, ((LISTED,), rows))
        for rows in ((good, good), (more, good, more), (empty, empty, good), (more,), (empty, more), ()):
            self.bad(self.CLAIM, ((LISTED,), rows))
        # What a further row has must be below it, too.
        for row in ((("b b>c",), ((0, ("a a>b",), 1, 1),)), (("b b>c",), ((9, ("a a>b b>c",), 1, 1),)), (("a",), ()),
                    (("*",), ()), ("b b>c", ()), (("b b>c",), [()]), (("b b>c",),), (("b b>c",), (), ()), (("b",), ()), (),
                    None, (("b b>",), ()), (("b b>c", "*"), ())):
            self.bad(self.CLAIM, ((LISTED,), (good, row)))

    def test_lists_of_certificates(self):
        rows = self.rows((0, ("a a>b",), 1, 1))[1]
        self.good(self.CLAIM, ((LISTED[::-1],), rows))
        # A listed shape that is not allowed needs no row if it does not pass the wanted view.
        self.good(self.CLAIM, ((("a", *LISTED),), rows))
        for lists in ((), (LISTED, LISTED), LISTED, ((),), (("b",),), (("a a>b",),), ((*LISTED, "b"),), None, [LISTED],
                      (list(LISTED),), ((*LISTED, "c"),)):
            self.bad(self.CLAIM, (lists, rows))
        self.bad(self.CLAIM, (rows, (LISTED,)))
        self.bad(self.CLAIM, ((LISTED,), rows, ()))
        self.bad(self.CLAIM, ((LISTED,),))
        text = "base a\nlink a b\nlink b c\nrule a reaches(b)\nrule b not(reaches(c))"
        claim = ("determined", (text,), ("b",), (("a",),))
        listed, rows = ("b", "c", "a a>b"), ((("b",), ((0, ("a a>b",), 1, 1),)),)
        self.good(claim, ((listed,), rows))
        # Listed shapes that are not allowed and pass the view need a row that adds up.
        more = (*listed, "b b>c", "a a>b b>c")
        self.bad(claim, ((more,), rows))
        self.good(claim, ((more,), (*rows, (("b b>c",), ((0, ("a a>b b>c",), 1, 1),)))))
        self.bad(claim, ((more,), (*rows, (("b b>c",), ((0, ("a a>b b>c",), 1, 2),)))))

    def test_each_near_value(self):
        claims = [
            (self.CLAIM, self.rows((0, ("a a>b",), 1, 2), (1, ("b",), 1, 2))),
            (("not determined", (TEXT,), ("a",), (("b",),)), (
                ((*TREE, ("z", "a", None, ("y",))),), ("x",), ((("x",), 1),), ((("z",), 1),))),
            (("greatest determined", (TEXT,), ("*",), (("b",),)), (LISTED,)),
            (("greatest not determined", (TEXT,), ("a",), (("b",),)), (
                ((*TREE, ("z", "a", None, ("y",))),), ("x",), ((("x",), 1), (("z",), 2)), ((("z",), 2),))),
        ]
        for claim, certificate in claims:
            self.good(claim, certificate)
            for near in proofs.near_values(certificate, OTHERS):
                self.judge(claim, near)
            for near in proofs.near_values(claim, OTHERS):
                self.judge(near, certificate)

    def test_data(self):
        claim = ("not determined", (TEXT,), ("a",), (("b",),))
        three = (*TREE, ("z", "a", None, ("y",)))
        ones, twos = ((("x",), 1),), ((("z",), 1),)
        self.good(claim, ((three,), ("x",), ones, twos))
        self.good(claim, ((three[::-1],), ("z",), ones, twos))
        # Amounts may be below 0 here, and facts may stand in any order.
        self.good(claim, ((three,), ("x",), ((("z",), -5), (("x",), 5)), ()))
        self.good(claim, ((three,), ("x",), ((("x",), 10 ** 50), (("z",), 0)), ((("z",), 10 ** 50),)))
        for data in (
            ((three,), ("x",), ones, ones), ((three,), ("y",), ones, twos), ((three,), ("*",), ones, twos),
            ((three,), ("x",), ones, ()), ((three,), ("x",), ((("x",), True),), twos), ((three,), ("w",), ones, twos),
            ((three,), ("x",), (*ones, *ones), twos), ((three,), ("x",), ((("y",), 1),), twos), ((three[1:],), ("x",), ones, twos),
            ((three, three), ("x",), ones, twos), ((), ("x",), ones, twos), (three, ("x",), ones, twos),
            ((three,), ("x", "x"), ones, twos), ((three,), "x", ones, twos), ((three,), ("x",), [ones[0]], twos),
            (((*three, three[0]),), ("x",), ones, twos), ((three,), ("x",), ones, twos, ()), ((three,), ("x",), ones),
            (((*three, ("w", "a", None, ())),), ("x",), ones, twos), (((*three, ("w", "a", "m", ("y",))),), ("x",), ones, twos),
            (((*three, ("w", "b", None, ("y",))),), ("x",), ones, twos), ((list(three),), ("x",), ones, twos),
        ):
            self.bad(claim, data)
        self.good(("not determined", (TEXT,), ("a",), ()), ((three,), ("x",), ones, ()))
        self.bad(("greatest not determined", (TEXT,), ("a",), (("b",),)), ((three,), ("x",), ones, ()))
        self.good(("greatest not determined", (TEXT,), ("a",), (("b",),)), ((three,), ("x",), ones, twos))
        # A greatest amount of 0 is not the same as none; a total of 0 is.
        zero = ((("x",), 0),)
        self.good(("greatest not determined", (TEXT,), ("a",), ()), ((three,), ("x",), zero, ()))
        self.bad(("not determined", (TEXT,), ("a",), ()), ((three,), ("x",), zero, ()))
        self.bad(("greatest not determined", (TEXT,), ("a",), (("b",),)), ((three,), ("x",), zero, ()))

    def test_views_of_claims(self):
        certificate = self.rows((0, ("a a>b",), 1, 1))
        for wanted, stored in (
            ("b", (("a",),)), (("c",), (("a",),)), (("b", "*"), (("a",),)), (("b",), (("c",),)), (("b",), ("a",)),
            (("b",), [("a",)]), (["b"], (("a",),)), (("b",), (("a",),) * 11), (("b",), ()), ((), (("a",),)),
        ):
            self.bad(("determined", (TEXT,), wanted, stored), certificate)
        self.good(("determined", (TEXT,), ("b",), (("a",),) * 10), certificate)
        for texts in ((), TEXT, (TEXT, TEXT), (TEXT,) * 4, [TEXT], (None,), (TEXT + "\n",)):
            self.bad(("determined", texts, ("b",), (("a",),)), certificate)

    def test_words(self):
        certificate = self.rows((0, ("a a>b",), 1, 1))
        for word in ("Determined", "determined ", "", "totals determined", "least determined", None, 0, ("determined",)):
            self.bad((word, *self.CLAIM[1:]), certificate)
        self.bad(self.CLAIM[:3], certificate)
        self.bad((*self.CLAIM, ()), certificate)
        self.bad((), certificate)
        self.bad((), ())

    def test_dimensions(self):
        text = "base i"
        lists, stored = (LISTED, ("i",)), (("a", "*"), ("b", "i"))
        claim = ("determined", (TEXT, text), ("b", "*"), stored)
        for terms in (((0, ("a a>b", "*"), 1, 1),), ((1, ("b", "i"), 1, 1),),
                      ((0, ("a a>b", "*"), 1, 3), (1, ("b", "i"), 2, 3), (1, ("b", "i j>k"), 2, 3))[:2]):
            self.good(claim, (lists, ((("b", "*"), terms),)))
        for terms in (((0, ("a a>b", "i"), 1, 1),), ((1, ("b", "*"), 1, 1),), ((0, ("*", "*"), 1, 1),)):
            self.bad(claim, (lists, ((("b", "*"), terms),)))
        self.bad(claim, (lists, ((("b", "i"), ((1, ("b", "i"), 1, 1),)),)))
        self.bad(claim, (lists[::-1], ((("b", "*"), ((1, ("b", "i"), 1, 1),)),)))

    def test_more_than_sixty_base_cell_shapes(self):
        cube = Cube(wide(8), wide(12))
        texts = tuple(str(schema) for schema in cube.schemas)
        lists = tuple(tuple(str(shape) for level in schema.levels for shape in schema.shapes(level))
                      for schema in cube.schemas)
        shapes = list(itertools.product(*[[str(shape) for shape in schema.shapes("a")] for schema in cube.schemas]))
        rows = ((("*", "*"), tuple((0, row, 1, 1) for row in shapes)),)
        claim = ("determined", texts, ("*", "*"), (("a", "a"),))
        self.assertIs(holds(claim, (lists, rows)), True)
        self.assertIs(holds(claim, (lists, ((("*", "*"), rows[0][1][1:]),))), False)
        self.assertIs(holds(("greatest determined", *claim[1:]), lists), True)
        self.assertIs(holds(("greatest determined", texts, ("*", "*"), (("u0", "a"),)), lists), False)

    def test_schemas_with_many_shapes(self):
        for schema in (SIXTY, wide(60), METRO, MARKED):
            cube = Cube(schema)
            for wanted in (("*",), (schema.base,)):
                for stored in ((), ((schema.base,),), tuple((level,) for level in schema.levels)):
                    for certify in (certify_totals, certify_greatest):
                        claim, certificate = certify(cube, wanted, stored)
                        self.assertIs(holds(claim, certificate), True)


class PriceClaimTest(CheckerCase):
    DATA = ((TREE,), ("y",), ((("x",), 1),), ())
    CLAIM = ("price", (TEXT,), (("b",),), (("a",), ("b",)), (3, 2), 2)

    def test_each_near_value(self):
        self.good(self.CLAIM, ((0, self.DATA),))
        for near in proofs.near_values(((0, self.DATA),), OTHERS):
            self.judge(self.CLAIM, near)
        for near in proofs.near_values(self.CLAIM, OTHERS):
            self.judge(near, ((0, self.DATA),))

    def test_prices(self):
        for price in (2, 1, 0, -1, -10 ** 40):
            self.good((*self.CLAIM[:5], price), ((0, self.DATA),))
        for price in (0, -1, -10 ** 40):
            self.good((*self.CLAIM[:5], price), ())
        for price in (1, 2):
            self.bad((*self.CLAIM[:5], price), ())
        for price in (3, 4, 10 ** 40, True, False, None, "2", (2,)):
            self.bad((*self.CLAIM[:5], price), ((0, self.DATA),))
        for prices in ((), (3,), (3, 2, 1), (3, 0), (3, -1), (True, 2), (3, None), [3, 2], "32", 5):
            self.bad((*self.CLAIM[:4], prices, 2), ((0, self.DATA),))
        self.good((*self.CLAIM[:4], (10 ** 50, 10 ** 50), 10 ** 50), ((0, self.DATA),))

    def test_wanted_and_stored_views(self):
        pair = ((0, self.DATA),)
        self.good(("price", (TEXT,), (("b",),), (), (), 1), pair)
        self.good(("price", (TEXT,), (("b",),) * 4, (), (), 10 ** 40), pair)
        for wanteds in ((), (("b",),) * 5, ("b",), (("c",),), [("b",)], ("b",), None):
            self.bad(("price", (TEXT,), wanteds, (), (), 1), pair)
        for stored in ((("a",),) * 11, (("c",),), [("a",)], "a", None):
            self.bad(("price", (TEXT,), (("b",),), stored, (5,) * 11, 1), pair)
        self.good(("price", (TEXT,), (("b",),), (("a",),) * 10, (5,) * 10, 5), pair)

    def test_further_pairs_and_their_order(self):
        three = (*TREE, ("z", "a", None, ("y",)))
        other = (1, ((three,), ("x",), ((("x",), 1),), ((("z",), 1),)))
        claim = ("price", (TEXT,), (("b",), ("a",)), (("a",), ("b",), ("*",)), (3, 2, 1), 3)
        # Stored everything and b alone still leave a open; the empty set needs a pair, too.
        self.good(claim, (other,))
        self.good((*claim[:5], 2), ((0, self.DATA), other))
        self.good((*claim[:5], 2), (other, (0, self.DATA), other))
        self.bad((*claim[:5], 4), (other,))
        self.bad(claim, ((0, self.DATA),))
        for pair in ((2, self.DATA), (-1, self.DATA), (True, other[1]), (False, self.DATA), (1, self.DATA), (0, other[1]),
                     (0,), self.DATA, (0, self.DATA, 0), [0, self.DATA], (self.DATA, 0), None, (0, None)):
            self.bad(claim, (other, pair))
        self.bad(claim, [other])
        self.bad(claim, other)

    def test_equal_amounts_in_the_cell(self):
        same = ((TREE,), ("y",), ((("x",), 1),), ((("x",), 1),))
        self.bad((*self.CLAIM[:5], 1), ((0, same),))
        self.bad((*self.CLAIM[:5], 1), ((0, self.DATA), (0, same)))


class StrangeTest(CheckerCase):
    def pairs(self):
        """Claims of all kinds with certificates that are right for them."""
        schema = Schema.read(TEXT)
        cube = Cube(schema)
        found = [certify_follows(schema, "a", Reaches("b")), certify_follows(schema, "b", Reaches("a")),
                 certify_totals(cube, ("b",), (("a",),)), certify_totals(cube, ("a",), (("b",),)),
                 certify_greatest(cube, ("*",), (("b",),)), certify_greatest(cube, ("a",), (("b",),)),
                 certify_price(cube, (("b",), ("a",)), (("a",), ("b",)), (3, 2))]
        self.assertEqual([claim[0] for claim, _ in found], list(WORDS))
        return found

    def test_strange_values_at_each_place(self):
        for claim, certificate in self.pairs():
            self.good(claim, certificate)
            for strange in strange_values():
                for near in put_at_each_place(certificate, strange):
                    self.assertIs(holds(claim, near), False)
                for near in put_at_each_place(claim, strange):
                    self.assertIs(holds(near, certificate), False)

    def test_plain_values_at_each_place(self):
        for claim, certificate in self.pairs():
            for odd in (None, 0, 1, -1, "", "a", "b", "*", (), ("a",), (1, 1), 10 ** 59, "follows", claim, certificate):
                for near in put_at_each_place(certificate, odd):
                    self.judge(claim, near)
                for near in put_at_each_place(claim, odd):
                    self.judge(near, certificate)

    def test_any_two_values(self):
        values = [*odd_values(), TEXT, LISTED, (), ("price",), ("follows",), *strange_values()[:-6]]
        for first in values:
            for second in values:
                self.assertIs(holds(first, second), False)
        for claim, certificate in self.pairs():
            for value in values:
                self.assertIs(holds(claim, value), value is LISTED and claim[0] == "follows")
                self.assertIs(holds(value, certificate), False)
                self.assertIs(holds(value, claim), False)
            self.assertIs(holds(certificate, claim), False)
            self.assertIs(holds(claim, claim), False)

    def test_signs_for_numbers_and_truth_values(self):
        for claim, certificate in self.pairs():
            for value, call in ((certificate, lambda near: holds(claim, near)),
                                (claim, lambda near: holds(near, certificate))):
                for near in self.truths(value):
                    self.assertIs(call(near), False)

    def truths(self, value):
        """The value with True in the place of a 1, or False in that of a 0."""
        if type(value) is int and value in (0, 1):
            yield bool(value)
        elif type(value) is tuple:
            for at, item in enumerate(value):
                for near in self.truths(item):
                    yield (*value[:at], near, *value[at + 1:])

    def test_lists_in_the_place_of_tuples(self):
        for claim, certificate in self.pairs():
            for near in self.lists(certificate):
                self.assertIs(holds(claim, near), False)
            for near in self.lists(claim):
                self.assertIs(holds(near, certificate), False)

    def lists(self, value):
        """The value with a list in the place of a tuple."""
        if type(value) is tuple:
            yield list(value)
            for at, item in enumerate(value):
                for near in self.lists(item):
                    yield (*value[:at], near, *value[at + 1:])

    def test_deep_values(self):
        deep = ()
        for _ in range(10):
            deep = (deep,)
        for claim, certificate in self.pairs():
            for near in put_at_each_place(certificate, deep):
                self.assertIs(holds(claim, near), False)
            self.assertIs(holds((*claim, deep), certificate), False)
            self.assertIs(holds(deep, certificate), False)

    def test_very_deep_values(self):
        deep = ()
        for _ in range(5000):
            deep = (deep,)
        for claim, certificate in self.pairs():
            self.same([holds(claim, deep), holds(deep, certificate), holds((*claim[:-1], deep), certificate)],
                      [False, False, False])

    def test_by_position_and_by_name(self):
        for claim, certificate in self.pairs():
            self.assertIs(holds(claim=claim, certificate=certificate), True)
            self.assertIs(holds(claim, certificate=certificate), True)
            self.assertIs(holds(certificate=claim, claim=certificate), False)

    def test_what_is_given_stays(self):
        certificate = [("b", "a a>b")]
        self.assertIs(holds(("greatest determined", (TEXT,), ("*",), (("b",),)), certificate), False)
        self.assertEqual(certificate, [("b", "a a>b")])

    def test_texts_of_shapes_that_are_odd(self):
        for text in ("a a>b ", " a a>b", "a  a>b", "a a>b a>b", "a b>a", "a a>b\n", "A a>b", "a>b", "", "a a>b b=x", "*"):
            self.bad(("follows", TEXT, "a", "all()"), ("b", "a a>b", text))
            self.bad(("does not follow", TEXT, "a", "any()"), text)
        self.assertEqual(str(Shape("a", ("a", "b"))), "a a>b")


if __name__ == "__main__":
    unittest.main()
