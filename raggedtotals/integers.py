"""Integers, which True and False are not."""


def is_integer(value):
    """Whether any value is an integer."""
    return isinstance(value, int) and not isinstance(value, bool)


def are_integers(value):
    """Whether any value is a tuple of integers, perhaps of none."""
    return isinstance(value, tuple) and all([is_integer(number) for number in value])
