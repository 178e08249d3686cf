"""The classes of errors, their bases and their fields."""

import unittest

from raggedtotals import errors
from tests.helpers import BASE_CLASSES, ERROR_CLASSES, Case, deep

BASES = {"RaggedError": ValueError, "StateError": LookupError, "RuleError": RuntimeError, "LimitError": ArithmeticError}

CLASSES = {
    ("RaggedError", ("value",)): (
        "InvalidName", "InvalidText", "InvalidLevel", "InvalidView", "InvalidCell", "InvalidAmount", "InvalidTimes",
        "InvalidMeasure", "NotACondition", "NotAShape", "NotASchema", "NotACube", "NotADataset", "NotAWarehouse",
    ),
    ("RaggedError", ("index",)): (
        "InvalidLinks", "InvalidMarks", "InvalidRules", "InvalidMembers", "InvalidSchemas", "InvalidHierarchies",
        "InvalidFacts", "InvalidStored", "InvalidWanted", "InvalidPrices", "InvalidShapes", "InvalidRows",
        "InvalidGoal", "InvalidDeed",
    ),
    ("StateError", ("value",)): ("UnknownMember", "MissingFact", "NotStored", "HasChildren", "HasFacts"),
    ("StateError", ()): ("NothingToUndo",),
    ("RuleError", ("member",)): ("InvalidParents", "TwoAncestors"),
    ("RuleError", ("member", "index")): ("BrokenRule",),
    ("RuleError", ("value",)): ("NotAllowed",),
    ("RuleError", ("blind_spot",)): ("NotDetermined",),
    ("RuleError", ()): ("NotComparable", "OtherCube"),
    ("LimitError", ("limit",)): ("TooMany",),
}
ROWS = [(name, base, fields) for (base, fields), names in CLASSES.items() for name in names]
VALUES = [5, "text", None, ("a", 1), ["a", [1]], True, {}, b"x", deep(10), ValueError("x")]


class ErrorsTest(Case):
    def test_all_classes_are_there_and_no_others(self):
        names = {name for name, _, _ in ROWS} | set(BASES)
        self.assertEqual({item.__name__ for item in ERROR_CLASSES}, names)
        self.assertEqual(len(ROWS), 42)

    def test_bases_have_their_own_bases(self):
        for name in BASES:
            with self.subTest(name):
                self.assertTrue(issubclass(getattr(errors, name), BASES[name]))

    def test_each_is_of_its_class_and_its_base_alone(self):
        for name, base, fields in ROWS:
            with self.subTest(name):
                error = getattr(errors, name)(*[7 for _ in fields])
                kinds = [item for item in ERROR_CLASSES if isinstance(error, item)]
                self.assertEqual({item.__name__ for item in kinds}, {name, base})
                self.assertIsInstance(error, BASES[base])
                pythons = [item for item in BASES.values() if isinstance(error, item)]
                self.assertEqual(pythons, [BASES[base]])

    def test_bases_are_of_one_class(self):
        for name in BASES:
            error = getattr(errors, name)()
            self.assertEqual([item.__name__ for item in ERROR_CLASSES if isinstance(error, item)], [name])
        self.assertEqual(len(BASE_CLASSES), len(BASES))

    def test_fields_are_kept_by_position_and_by_name(self):
        for name, _, fields in ROWS:
            error_class = getattr(errors, name)
            for value in VALUES:
                with self.subTest(name, value=value):
                    values = [value] + ["other" for _ in fields[1:]] if fields else []
                    by_place = error_class(*values)
                    by_name = error_class(**dict(zip(fields, values)))
                    for error in (by_place, by_name):
                        self.assertEqual(list(vars(error)), list(fields))
                        for field, kept in zip(fields, values):
                            self.assertIs(getattr(error, field), kept)

    def test_the_second_field_is_kept_too(self):
        error = errors.BrokenRule(index=["i"], member=None)
        self.same([error.member, error.index], [None, ["i"]])
        error = errors.BrokenRule("m", 3)
        self.same([error.member, error.index], ["m", 3])

    def test_they_can_be_raised_and_caught(self):
        for name, base, fields in ROWS:
            with self.subTest(name):
                with self.assertRaises(getattr(errors, base)):
                    raise getattr(errors, name)(*[1 for _ in fields])


if __name__ == "__main__":
    unittest.main()
