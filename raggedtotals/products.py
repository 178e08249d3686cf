"""All tuples with one element out of each of several rows."""


def all_tuples(rows):
    """The list of all tuples with one element out of each of these rows, ascending if the rows are."""
    found = [()]
    for row in rows:
        found = [(*chosen, item) for chosen in found for item in row]
    return found


def tuple_by_tuple(rows):
    """Yield what the list of all tuples has; there may be far more of them than a caller needs."""
    *outer, inner = rows
    for chosen in all_tuples(outer):
        for item in inner:
            yield (*chosen, item)
