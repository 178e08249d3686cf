"""Hierarchies with two copies of the members that reach a level, by which blind spots are made."""

from raggedtotals.hierarchies import Hierarchy


def parts_by_text(shapes):
    """All parts of these shapes, each once, under their texts."""
    parts = {}
    for shape in shapes:
        for level in shape.levels:
            part = shape.part(level)
            parts[str(part)] = part
    return parts


def names_by_text(parts, level):
    """For each part the names of its members: two copies if it reaches the level, otherwise one."""
    names = {}
    count = 0
    for text in sorted(parts):
        many = 2 if level in parts[text] else 1
        names[text] = [f"m{count + copy}" for copy in range(many)]
        count = count + many
    return names


def entries_from(parts, names):
    """The entries of the members with these names, each copy below the copies with its own number."""
    entries = []
    for text, part in parts.items():
        above = [names[str(part.part(upper))] for lower, upper in part.links if lower == part.level]
        for copy, name in enumerate(names[text]):
            # Parents that do not reach the level have one member, which both copies share.
            parents = [found[copy] if len(found) > copy else found[0] for found in above]
            entries.append((name, part.level, part.mark(part.level), tuple(parents)))
    return entries


def copied(schema, shapes, level):
    """The hierarchy with a member for each part of these shapes, or two if it reaches the level, and their names.

    Nothing reaches the sign for everything, so there are no second copies where it stands in the place of the level.
    """
    parts = parts_by_text(shapes)
    names = names_by_text(parts, level)
    entries = entries_from(parts, names)
    return Hierarchy(schema, *entries), names


def copied_cells(names, shapes):
    """The pairs (cell, sign) of all copies of a base cell shape, with the sign changed for each second copy.

    For each dimension `names` has the names of members by the texts of their shapes. The first cell has first copies
    alone.
    """
    found = [((), 1)]
    for copies, shape in zip(names, shapes):
        signed = list(zip(copies[str(shape)], (1, -1)))
        found = [((*cell, name), sign * change) for cell, sign in found for name, change in signed]
    return found
