"""What the tests share: a test case that looks at errors, values of all kinds, and texts that are nearly right."""

import unittest

from raggedtotals import errors
from raggedtotals.conditions import Reaches
from raggedtotals.schemas import Schema
from raggedtotals.shapes import Shape

ERROR_CLASSES = [item for item in vars(errors).values() if isinstance(item, type)]
BASE_CLASSES = (errors.RaggedError, errors.StateError, errors.RuleError, errors.LimitError)


def deep(times):
    """A tuple nested so many times."""
    value = ("a",)
    for _ in range(times - 1):
        value = (value,)
    return value


def odd_values():
    """Values of all kinds, none of them a name, a link, a text of anything, or a tuple of good elements."""
    return [
        None, True, False, 0, 1, -1, 60, 10 ** 59, "", " ", "A", "1a", "a b", "a\n", "abcdefghi", "*", "~",
        b"a", b"", ("a",), ("a", "a"), ("A", "b"), ("a", "b", "c"), (1, 2), (True,), (None,), (("a", "b"),),
        [], ["a"], ["a", "b"], [[]], {}, {"a": "b"}, set(), {"a"}, frozenset(), deep(10), [deep(9)],
        Shape, Reaches, len, Shape("a"), Shape("a", ("a", "b")), Reaches("a"), Schema("a"), ValueError("a"), object(),
    ]


class Case(unittest.TestCase):
    """A test case that checks the fields of errors."""

    def raises(self, error, fields, call, *args, **named):
        """Check that a call raises exactly this error with these fields."""
        with self.assertRaises(errors.RaggedError if issubclass(error, errors.RaggedError) else error) as caught:
            call(*args, **named)
        self.assertIs(type(caught.exception), error)
        self.assertEqual(list(vars(caught.exception)), list(fields))
        for name in fields:
            found = getattr(caught.exception, name)
            self.assertIs(type(found), type(fields[name]))
            if found is not fields[name]:
                self.assertEqual(found, fields[name])

    def same(self, found, wanted):
        """Check that two values are equal and of the same kinds, so that True is not taken for 1."""
        self.assertEqual(found, wanted)
        self.assertEqual(repr(found), repr(wanted))


def near_texts(text, signs):
    """Texts that differ from this one by a character put in, left out, doubled or exchanged, or by a blank."""
    out = [text + "\n", "\n" + text, text + " ", " " + text, text + text, text + " " + text, text + "\n" + text]
    for at in range(len(text) + 1):
        out.extend([text[:at] + sign + text[at:] for sign in signs])
    for at in range(len(text)):
        out.append(text[:at] + text[at + 1:])
        out.append(text[:at])
        out.append(text[at:])
        out.append(text[:at] + text[at] + text[at:])
        out.append(text[:at] + text[at + 1:at + 2] + text[at] + text[at + 2:])
        out.extend([text[:at] + sign + text[at + 1:] for sign in signs])
    return [other for other in out if other != text]


def near_rows(text, between):
    """Texts in which one of the pieces between separators is left out, doubled, or exchanged with another."""
    pieces = text.split(between)
    out = []
    for at in range(len(pieces)):
        out.append(pieces[:at] + pieces[at + 1:])
        out.append(pieces[:at] + [pieces[at], pieces[at]] + pieces[at + 1:])
        out.append(pieces[:at] + [""] + pieces[at:])
        for other in range(at):
            changed = list(pieces)
            changed[at], changed[other] = changed[other], changed[at]
            out.append(changed)
    texts = [between.join(row) for row in out]
    return [other for other in texts if other != text]
