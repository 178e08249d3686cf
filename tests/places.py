"""A second reading of the document about hierarchies, made of sets and searched through, to compare the program with.

A plain hierarchy is a list of entries (name, level, mark, parents).
"""

import itertools


class Sly:
    """A value that says that it equals everything, and that cannot be a key."""

    def __eq__(self, other):
        return True

    __hash__ = None


def entry_of(entries, name):
    """The entry with this name."""
    return [entry for entry in entries if entry[0] == name][0]


def reach(entries, name):
    """The set of the names of the members that a member reaches."""
    found = {name}
    for _ in entries:
        found |= {parent for entry in entries if entry[0] in found for parent in entry[3]}
    return found


def plain_shape(entries, name):
    """The plain shape (of the model) of a member."""
    rows = [entry for entry in entries if entry[0] in reach(entries, name)]
    links = {(entry[1], entry_of(entries, parent)[1]) for entry in rows for parent in entry[3]}
    return entry_of(entries, name)[1], frozenset(links), {entry[1]: entry[2] for entry in rows if entry[2] is not None}


def ancestors(entries, name, level):
    """The list of the members of a level that a member reaches."""
    return sorted(entry[0] for entry in entries if entry[1] == level and entry[0] in reach(entries, name))


def descendants(entries, name, level):
    """The list of the members of a level that reach a member."""
    return sorted(entry[0] for entry in entries if entry[1] == level and name in reach(entries, entry[0]))


def order_of(links, levels):
    """These levels, each behind all those that links lead to from it."""
    left, out = sorted(levels), []
    while left:
        free = [level for level in left if not any(lower == level and upper in left for lower, upper in links)]
        out.extend(free)
        left = [level for level in left if level not in free]
    return out


def put_in(chance, entries, shape, again=0.7):
    """Give the entries a member with this shape, perhaps with members that are there already; return its name."""
    chosen = {}
    for level in order_of(shape.links, shape.levels):
        parents = tuple(sorted(chosen[upper] for lower, upper in shape.links if lower == level))
        same = [entry[0] for entry in entries if entry[1:] == (level, shape.mark(level), parents)]
        if same and chance.random() < again and level != shape.level:
            chosen[level] = chance.choice(same)
        else:
            chosen[level] = f"{level[:4]}{len(entries)}"
            entries.append((chosen[level], level, shape.mark(level), parents))
    return chosen[shape.level]


def random_entries(chance, schema, count, again=0.7):
    """Entries of a hierarchy of the schema with so many members that are put in with all above them."""
    entries = []
    shapes = [shape for level in schema.levels for shape in schema.shapes(level)]
    base = list(schema.shapes(schema.base)) or shapes
    for _ in range(count):
        if shapes:
            put_in(chance, entries, chance.choice(base if chance.random() < 0.7 else shapes), again)
    chance.shuffle(entries)
    return entries


def level_of(entries, name):
    """The level of a member; None for everything."""
    return None if name == "*" else entry_of(entries, name)[1]


def goes_into(hierarchies, cell, upper):
    """Whether a cell goes into another one, for these plain hierarchies."""
    return all(
        above == "*" or (place != "*" and above in reach(entries, place))
        for entries, place, above in zip(hierarchies, cell, upper)
    )


def cells_of(hierarchies, view):
    """The list of all cells of a view."""
    lists = [["*"] if place == "*" else sorted(entry[0] for entry in entries if entry[1] == place)
             for entries, place in zip(hierarchies, view)]
    return list(itertools.product(*lists))


def amounts_in(hierarchies, facts, cell):
    """The amounts of the facts whose cells go into a cell."""
    return [amount for place, amount in facts if goes_into(hierarchies, place, cell)]


def random_facts(chance, hierarchies, base, count, top=9):
    """At most so many facts with different cells of the base view of these plain hierarchies."""
    cells = cells_of(hierarchies, base)
    chosen = chance.sample(cells, min(count, len(cells)))
    return tuple((cell, chance.randint(-top, top)) for cell in chosen)


def spot_hierarchy(shapes, level):
    """Entries with a member for each part of these shapes, and two copies of those that reach the level.

    Returned with the names of the copies by the text of the part.
    """
    parts = {str(shape.part(place)): shape.part(place) for shape in shapes for place in shape.levels}
    names = {
        text: [f"p{at}c{copy}" for copy in range(2 if level in parts[text].levels else 1)]
        for at, text in enumerate(sorted(parts))
    }
    entries = []
    for text, part in parts.items():
        for copy, name in enumerate(names[text]):
            above = [names[str(part.part(upper))] for lower, upper in part.links if lower == part.level]
            parents = tuple(row[min(copy, len(row) - 1)] for row in above)
            entries.append((name, part.level, part.mark(part.level), parents))
    return entries, names


def spot_facts(values, names, texts):
    """The signed facts for values of base cell shapes: at the cells of all copies, changed for each second one."""
    facts = []
    for row, value in zip(texts, values):
        copies = [range(len(found[text])) for found, text in zip(names, row)]
        for chosen in itertools.product(*copies):
            cell = tuple(found[text][copy] for found, text, copy in zip(names, row, chosen))
            facts.append((cell, value * (-1) ** sum(chosen)))
    return facts
