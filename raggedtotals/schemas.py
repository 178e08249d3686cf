"""Schemas: levels, the links between them, marks, and rules about the shapes of members."""

from raggedtotals.candidates import allowed_shapes
from raggedtotals.conditions import Condition, check_condition
from raggedtotals.errors import (
    InvalidLevel, InvalidLinks, InvalidMarks, InvalidName, InvalidRules, InvalidText, NotASchema,
)
from raggedtotals.graphs import levels_from
from raggedtotals.limits import MAX_LEVELS, MAX_LINKS, MAX_MARKS, MAX_RULES
from raggedtotals.names import check_name, is_name
from raggedtotals.shapes import check_shape
from raggedtotals.texts import read_condition


def levels_within(base, links):
    """The levels of a schema with this base and these links, or InvalidLinks if they are not as required."""
    if len(links) > MAX_LINKS:
        raise InvalidLinks(None)
    levels = levels_from(base, links)
    if len(levels) > MAX_LEVELS:
        raise InvalidLinks(None)
    return levels


def is_mark_row(levels, value):
    """Whether any value is a tuple of one of these levels and its different marks, not too many of them."""
    if not isinstance(value, tuple) or len(value) < 2 or len(value) > 1 + MAX_MARKS:
        return False
    level, *marks = value
    return level in levels and all([is_name(mark) for mark in marks]) and len(set(marks)) == len(marks)


def check_mark_rows(levels, marks):
    """Raise InvalidMarks if the value is not a tuple with the marks of different ones of these levels."""
    if not isinstance(marks, tuple):
        raise InvalidMarks(None)
    seen = {}
    for index, row in enumerate(marks):
        if not is_mark_row(levels, row) or row[0] in seen:
            raise InvalidMarks(index)
        seen[row[0]] = True


def names_only(condition, levels):
    """Whether all levels that the condition names are among these."""
    return all([level in levels for level in condition.levels])


def is_rule(levels, value):
    """Whether any value is a rule of a schema with these levels."""
    if not isinstance(value, tuple) or len(value) != 2:
        return False
    return value[0] in levels and isinstance(value[1], Condition) and names_only(value[1], levels)


def check_rules(levels, rules):
    """Raise InvalidRules if the value is not a tuple of rules of a schema with these levels."""
    if not isinstance(rules, tuple) or len(rules) > MAX_RULES:
        raise InvalidRules(None)
    for index, rule in enumerate(rules):
        if not is_rule(levels, rule):
            raise InvalidRules(index)


def sorted_marks(marks):
    """The rows of marks in ascending order, each with ascending marks."""
    return tuple(sorted([(row[0], *sorted(row[1:])) for row in marks]))


def uppers_by_level(levels, links):
    """For each level the ascending tuple of the levels to which these ascending links lead from it."""
    return {level: tuple([upper for lower, upper in links if lower == level]) for level in levels}


def marks_by_level(levels, rows):
    """For each level the tuple of its marks in these rows, perhaps empty."""
    found = {row[0]: row[1:] for row in rows}
    return {level: found.get(level, ()) for level in levels}


def text_from(base, links, marks, rules):
    """The text of the schema that is made of these."""
    lines = ["base " + base]
    lines.extend(["link " + " ".join(link) for link in sorted(links)])
    lines.extend(["marks " + " ".join(row) for row in sorted_marks(marks)])
    lines.extend([f"rule {level} {condition}" for level, condition in rules])
    return "\n".join(lines)


def pieces_of(text):
    """Base, links, marks and rules that the lines of a text name, which need not make a schema."""
    first, *lines = text.split("\n")
    links, marks, rules = [], [], []
    for line in lines:
        word, _, rest = line.partition(" ")
        if word == "link":
            links.append(tuple(rest.split(" ")))
        elif word == "marks":
            marks.append(tuple(rest.split(" ")))
        elif word == "rule":
            level, _, words = rest.partition(" ")
            rules.append((level, read_condition(words)))
        else:
            raise InvalidText(text)
    return first.partition(" ")[2], links, tuple(marks), tuple(rules)


def is_level(schema, value):
    """Whether any value is a level of the schema."""
    return isinstance(value, str) and value in schema.levels


def check_level(schema, level):
    """Raise InvalidLevel if any value is not a level of the schema."""
    if not is_level(schema, level):
        raise InvalidLevel(level)


def check_schema(value):
    """Raise NotASchema if the value is not a schema."""
    if not isinstance(value, Schema):
        raise NotASchema(value)


class Schema:
    """A base, links, marks of levels, and rules; it knows the allowed shapes of its levels."""

    def __init__(self, base, *links, marks=(), rules=()):
        check_name(base)
        levels = levels_within(base, links)
        check_mark_rows(levels, marks)
        check_rules(levels, rules)
        self._base = base
        self._levels = levels
        self._links = tuple(sorted(links))
        self._marks = sorted_marks(marks)
        self._rules = rules
        self._text = text_from(base, links, marks, rules)
        self._above = uppers_by_level(levels, self._links)
        self._marks_of = marks_by_level(levels, self._marks)
        self._allowed = allowed_shapes(self._above, self._marks_of, rules)

    @staticmethod
    def read(text):
        """The schema with this text."""
        if not isinstance(text, str):
            raise InvalidText(text)
        try:
            base, links, marks, rules = pieces_of(text)
            # This comes first, so that TooMany is raised only for a text that has no other fault.
            if text_from(base, links, marks, rules) != text:
                raise InvalidText(text)
            return Schema(base, *links, marks=marks, rules=rules)
        except (InvalidText, InvalidName, InvalidLinks, InvalidMarks, InvalidRules):
            raise InvalidText(text) from None

    @property
    def base(self):
        """The level for whose members figures are recorded."""
        return self._base

    @property
    def levels(self):
        """The ascending tuple of the base and the ends of the links."""
        return self._levels

    @property
    def links(self):
        """The ascending tuple of the links."""
        return self._links

    @property
    def marks(self):
        """The ascending tuple of the tuples of a level and its ascending marks."""
        return self._marks

    @property
    def rules(self):
        """The tuple of the rules in their order."""
        return self._rules

    def above(self, level):
        """The ascending tuple of the levels to which links lead from the level."""
        check_level(self, level)
        return self._above[level]

    def marks_of(self, level):
        """The ascending tuple of the marks of the level."""
        check_level(self, level)
        return self._marks_of[level]

    def shapes(self, level):
        """Yield the allowed shapes of the level in ascending order of their texts."""
        check_level(self, level)
        for shape in self._allowed[level]:
            yield shape

    def fits(self, shape):
        """Whether the shape has levels, links and marks as the schema has them, whatever the rules say."""
        check_shape(shape)
        if shape.level not in self._levels or any([link not in self._links for link in shape.links]):
            return False
        # A level without marks has the one choice None, which is also what a shape without a mark there has.
        return all([shape.mark(level) in (self._marks_of[level] or (None,)) for level in shape.levels])

    def allows(self, shape):
        """Whether the shape fits and its parts keep the rules of their levels."""
        check_shape(shape)
        return shape.level in self._levels and shape in self._allowed[shape.level]

    def with_rule(self, level, condition):
        """The schema with one more rule, behind the others."""
        check_level(self, level)
        check_condition(condition)
        if len(self._rules) >= MAX_RULES or not names_only(condition, self._levels):
            raise InvalidRules(None)
        rules = (*self._rules, (level, condition))
        return Schema(self._base, *self._links, marks=self._marks, rules=rules)

    def __eq__(self, other):
        return isinstance(other, Schema) and self._text == other._text

    def __str__(self):
        return str(self._text)

    def __repr__(self):
        return f"Schema({len(self._levels)} levels, {len(self._rules)} rules)"
