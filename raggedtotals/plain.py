"""Plain values, of which claims and certificates are made."""

MOST_NESTED = 10


def is_plain(value, room=MOST_NESTED):
    """Whether any value is None, an integer, a string, or a tuple of such, nested at most so deep.

    Only the very kinds count: values of other kinds may answer comparisons as they like.
    """
    if type(value) == tuple:
        return room > 0 and all([is_plain(item, room - 1) for item in value])
    return value is None or type(value) in (int, str)
