"""Shapes: what a member of a hierarchy sees above it."""

from raggedtotals.errors import InvalidLinks, InvalidMarks, InvalidName, InvalidText, NotAShape
from raggedtotals.graphs import levels_from, reached
from raggedtotals.names import check_name, is_name


def is_mark(levels, value):
    """Whether any value is a pair of one of these levels and a name."""
    return isinstance(value, tuple) and len(value) == 2 and value[0] in levels and is_name(value[1])


def check_marks(levels, marks):
    """Raise InvalidMarks if the value is not a tuple of marks of different ones of these levels."""
    if not isinstance(marks, tuple):
        raise InvalidMarks(None)
    seen = {}
    for index, pair in enumerate(marks):
        if not is_mark(levels, pair) or pair[0] in seen:
            raise InvalidMarks(index)
        seen[pair[0]] = True


def check_shape(value):
    """Raise NotAShape if the value is not a shape."""
    if not isinstance(value, Shape):
        raise NotAShape(value)


class Shape:
    """A level, the links that can be reached from it, and marks of its levels."""

    def __init__(self, level, *links, marks=()):
        check_name(level)
        levels = levels_from(level, links)
        check_marks(levels, marks)
        self._level = level
        self._levels = levels
        self._links = tuple(sorted(links))
        self._marks = tuple(sorted(marks))
        words = [f"{lower}>{upper}" for lower, upper in self._links]
        signs = [f"{place}={mark}" for place, mark in self._marks]
        self._text = " ".join([level, *words, *signs])

    @staticmethod
    def read(text):
        """The shape with this text."""
        if not isinstance(text, str):
            raise InvalidText(text)
        level, *words = text.split(" ")
        links = [tuple(word.split(">")) for word in words if ">" in word]
        marks = tuple([tuple(word.split("=")) for word in words if ">" not in word])
        try:
            shape = Shape(level, *links, marks=marks)
        except (InvalidName, InvalidLinks, InvalidMarks):
            raise InvalidText(text) from None
        # The words may stand in a wrong order, so their shape may have another text.
        if str(shape) != text:
            raise InvalidText(text)
        return shape

    @property
    def level(self):
        """The level whose members have this shape."""
        return self._level

    @property
    def levels(self):
        """The ascending tuple of its level and the ends of its links."""
        return self._levels

    @property
    def links(self):
        """The ascending tuple of its links."""
        return self._links

    @property
    def marks(self):
        """The ascending tuple of its marks."""
        return self._marks

    def part(self, level):
        """The part at this level; None if any value is not one of its levels."""
        if level not in self._levels:
            return None
        levels = reached(level, self._links)
        links = [link for link in self._links if link[0] in levels]
        marks = tuple([pair for pair in self._marks if pair[0] in levels])
        return Shape(level, *links, marks=marks)

    def mark(self, level):
        """The mark of this level; None if any value has none."""
        for place, mark in self._marks:
            if place == level:
                return mark
        return None

    def __contains__(self, value):
        return value in self._levels

    def __eq__(self, other):
        return isinstance(other, Shape) and self._text == other._text

    def __str__(self):
        return str(self._text)

    def __repr__(self):
        return f"Shape({self._text})"
