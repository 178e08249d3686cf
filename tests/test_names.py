"""Names and links, asked of any value."""

import unittest

from raggedtotals.names import is_link, is_name
from tests.helpers import Case, odd_values

ALL_SIGNS = "".join([chr(code) for code in range(ord(" "), ord("~") + 1)]) + "\n"
LETTERS = "abcdefghijklmnopqrstuvwxyz"
DIGITS = "0123456789"


class NamesTest(Case):
    def both(self, function, value, wanted):
        """Check a function with its argument by position and by name."""
        self.assertIs(function(value), wanted)
        self.assertIs(function(value=value), wanted)

    def test_example(self):
        found = [
            is_name("city2"), is_name("2city"), is_name("City"), is_name("countries"), is_link(("city", "state")),
            is_link(("city", "city")), is_link(["city", "state"]),
        ]
        self.same(found, [True, False, False, False, True, False, False])

    def test_lengths(self):
        for text, wanted in (("", False), ("a", True), ("ab", True), ("abcdefg", True), ("abcdefgh", True),
                             ("abcdefghi", False), ("a1234567", True), ("a12345678", False), ("a" * 4000, False)):
            with self.subTest(text):
                self.both(is_name, text, wanted)

    def test_each_sign_at_the_first_place(self):
        for sign in ALL_SIGNS:
            with self.subTest(sign):
                self.both(is_name, sign, sign in LETTERS)
                self.both(is_name, sign + "bc", sign in LETTERS)

    def test_each_sign_at_a_later_place(self):
        for sign in ALL_SIGNS:
            for text in ("a" + sign, "a" + sign + "b", "abcdefg" + sign):
                with self.subTest(text):
                    self.both(is_name, text, sign in LETTERS + DIGITS)

    def test_newline_at_the_end(self):
        self.both(is_name, "city\n", False)
        self.both(is_link, ("city", "state\n"), False)

    def test_values_that_are_no_names(self):
        for value in odd_values():
            with self.subTest(value=value):
                self.both(is_name, value, False)

    def test_values_that_are_no_links(self):
        for value in odd_values() + ["ab", "a b", (), ("a", 1), (1, "a"), ("a", True), ("a", None), ("a", ("b", "c"))]:
            with self.subTest(value=value):
                self.both(is_link, value, False)

    def test_pairs(self):
        for pair, wanted in ((("a", "b"), True), (("b", "a"), True), (("a", "a"), False), (("abcdefgh", "a1"), True),
                             (("abcdefghi", "a"), False), (("a", "abcdefghi"), False), (("A", "b"), False),
                             (("a", "B"), False), (("", "b"), False), (("a", ""), False), (("1", "b"), False)):
            with self.subTest(pair):
                self.both(is_link, pair, wanted)
                self.both(is_link, list(pair), False)

    def test_pairs_with_a_side_of_another_kind(self):
        for value in odd_values():
            with self.subTest(value=value):
                self.both(is_link, ("a", value), False)
                self.both(is_link, (value, "a"), False)
                self.both(is_link, (value, value), False)

    def test_tuples_of_other_lengths(self):
        for value in ((), ("a",), ("a", "b", "c"), ("a", "b", "c", "d")):
            self.both(is_link, value, False)

    def test_nothing_is_modified(self):
        value = ["a", ["b"], {"c": ["d"]}]
        is_name(value)
        is_link(value)
        is_link((value, value))
        self.same(value, ["a", ["b"], {"c": ["d"]}])


if __name__ == "__main__":
    unittest.main()
