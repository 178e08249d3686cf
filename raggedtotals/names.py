"""Names of levels, marks and members, and links between levels."""

from raggedtotals.errors import InvalidName

_LETTERS = "abcdefghijklmnopqrstuvwxyz"
_SIGNS = "abcdefghijklmnopqrstuvwxyz0123456789"
_LONGEST = 8


def is_name(value):
    """Whether any value is a name."""
    if not isinstance(value, str) or len(value) < 1 or len(value) > _LONGEST:
        return False
    return value[0] in _LETTERS and all([sign in _SIGNS for sign in value])


def is_link(value):
    """Whether any value is a link, a pair of two different names."""
    if not isinstance(value, tuple) or len(value) != 2:
        return False
    return is_name(value[0]) and is_name(value[1]) and value[0] != value[1]


def check_name(value):
    """Raise InvalidName if the value is not a name."""
    if not is_name(value):
        raise InvalidName(value)
