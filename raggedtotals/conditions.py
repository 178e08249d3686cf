"""Conditions: what is true or false for a shape, and the kinds of them."""

from raggedtotals.errors import InvalidName, NotACondition, TooMany
from raggedtotals.graphs import reached
from raggedtotals.limits import MAX_DEPTH, MAX_PARTS
from raggedtotals.names import check_name
from raggedtotals.shapes import check_shape


def text_with(word, items):
    """The text of the condition with this word that is made of these names or conditions."""
    inside = ", ".join([str(item) for item in items])
    return f"{word}({inside})"


def levels_in(conditions):
    """The ascending tuple of the levels that these conditions name."""
    return tuple(sorted({level for condition in conditions for level in condition.levels}))


def parts_with(conditions):
    """The number of parts of a condition that is made of these."""
    return 1 + sum([condition.parts for condition in conditions])


def depth_with(conditions):
    """The depth of a condition that is made of these."""
    return 1 + max([condition.depth for condition in conditions], default=0)


def check_condition(value):
    """Raise NotACondition if the value is not a condition."""
    if not isinstance(value, Condition):
        raise NotACondition(value)


def check_inner(conditions):
    """Raise an error if no condition can be made of these values."""
    for condition in conditions:
        check_condition(condition)
    if parts_with(conditions) > MAX_PARTS:
        raise TooMany(MAX_PARTS)
    if depth_with(conditions) > MAX_DEPTH:
        raise TooMany(MAX_DEPTH)


class Condition:
    """The base class of the kinds below; only objects of these are created."""

    def __init__(self, text, levels, conditions):
        self._text = text
        self._levels = levels
        self._parts = parts_with(conditions)
        self._depth = depth_with(conditions)

    @property
    def levels(self):
        """The ascending tuple of the levels that the condition names."""
        return self._levels

    @property
    def parts(self):
        """The number of its parts."""
        return self._parts

    @property
    def depth(self):
        """One more than the greatest depth of the conditions that it is made of."""
        return self._depth

    def __call__(self, shape):
        raise NotImplementedError("each kind of condition tells by itself when it is true")

    def __and__(self, other):
        return All(self, other)

    def __or__(self, other):
        return Any(self, other)

    def __rshift__(self, other):
        return If(self, other)

    def __invert__(self):
        return Not(self)

    def __eq__(self, other):
        return isinstance(other, Condition) and self._text == other._text

    def __str__(self):
        return str(self._text)

    def __repr__(self):
        return f"Condition({self._text})"


class Reaches(Condition):
    """The shape reaches the level."""

    WORD = "reaches"

    def __init__(self, level):
        check_name(level)
        super().__init__(text_with(self.WORD, (level,)), (level,), ())
        self._level = level

    def __call__(self, shape):
        check_shape(shape)
        return self._level in shape


class Way(Condition):
    """Links of the shape lead from its level to the first of these levels, and from each to the next."""

    WORD = "way"

    def __init__(self, *levels):
        if not levels:
            raise InvalidName(None)
        for level in levels:
            check_name(level)
        super().__init__(text_with(self.WORD, levels), tuple(sorted(set(levels))), ())
        self._steps = levels

    def __call__(self, shape):
        check_shape(shape)
        lowers = (shape.level, *self._steps)
        return all([link in shape.links for link in zip(lowers, self._steps)])


class Via(Condition):
    """The shape reaches the first level, and its part there reaches the second one."""

    WORD = "via"

    def __init__(self, through, level):
        check_name(through)
        check_name(level)
        names = (through, level)
        super().__init__(text_with(self.WORD, names), tuple(sorted(set(names))), ())
        self._through = through
        self._level = level

    def __call__(self, shape):
        check_shape(shape)
        return self._through in shape and self._level in reached(self._through, shape.links)


class Marked(Condition):
    """The shape has this mark at the level."""

    WORD = "marked"

    def __init__(self, level, mark):
        check_name(level)
        check_name(mark)
        super().__init__(text_with(self.WORD, (level, mark)), (level,), ())
        self._pair = (level, mark)

    def __call__(self, shape):
        check_shape(shape)
        return self._pair in shape.marks


class Not(Condition):
    """The condition is false."""

    WORD = "not"

    def __init__(self, condition):
        conditions = (condition,)
        check_inner(conditions)
        super().__init__(text_with(self.WORD, conditions), levels_in(conditions), conditions)
        self._inner = condition

    def __call__(self, shape):
        check_shape(shape)
        return not self._inner(shape)


class All(Condition):
    """Each of the conditions is true."""

    WORD = "all"

    def __init__(self, *conditions):
        check_inner(conditions)
        super().__init__(text_with(self.WORD, conditions), levels_in(conditions), conditions)
        self._conditions = conditions

    def __call__(self, shape):
        check_shape(shape)
        return all([condition(shape) for condition in self._conditions])


class Any(Condition):
    """At least one of the conditions is true."""

    WORD = "any"

    def __init__(self, *conditions):
        check_inner(conditions)
        super().__init__(text_with(self.WORD, conditions), levels_in(conditions), conditions)
        self._conditions = conditions

    def __call__(self, shape):
        check_shape(shape)
        return any([condition(shape) for condition in self._conditions])


class One(Condition):
    """Exactly one of the conditions is true."""

    WORD = "one"

    def __init__(self, *conditions):
        check_inner(conditions)
        super().__init__(text_with(self.WORD, conditions), levels_in(conditions), conditions)
        self._conditions = conditions

    def __call__(self, shape):
        check_shape(shape)
        return len([condition for condition in self._conditions if condition(shape)]) == 1


class If(Condition):
    """The first condition is false or the second one is true."""

    WORD = "if"

    def __init__(self, condition, then):
        conditions = (condition, then)
        check_inner(conditions)
        super().__init__(text_with(self.WORD, conditions), levels_in(conditions), conditions)
        self._given = condition
        self._then = then

    def __call__(self, shape):
        check_shape(shape)
        return not self._given(shape) or self._then(shape)
