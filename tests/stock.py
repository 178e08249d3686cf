"""A second reading of the document about warehouses: members and facts in dicts, changed deed by deed."""

import copy

from raggedtotals.errors import (
    BrokenRule, HasChildren, HasFacts, InvalidAmount, InvalidCell, InvalidMembers, InvalidParents, MissingFact,
    TwoAncestors, UnknownMember,
)
from tests import model, places


def is_integer(value):
    return type(value) is int


def is_name(value):
    return type(value) is str and 1 <= len(value) <= 8 and value[0] in "abcdefghijklmnopqrstuvwxyz" and all(
        sign in "abcdefghijklmnopqrstuvwxyz0123456789" for sign in value)


def has_form(value, dimensions):
    """Whether a value has the form of a deed."""
    if type(value) is not tuple or not value or type(value[0]) is not str:
        return False
    if value[0] in ("put", "remove"):
        return len(value) > 1 and is_integer(value[1]) and 0 <= value[1] < dimensions
    return (value[0], len(value)) in (("fact", 3), ("clear", 2))


def is_entry(schema, value):
    """Whether a value has the form of an entry."""
    if type(value) is not tuple or len(value) != 4 or not is_name(value[0]):
        return False
    if type(value[1]) is not str or value[1] not in schema.levels or type(value[3]) is not tuple:
        return False
    marks = list(schema.marks_of(value[1])) or [None]
    if not any(value[2] is mark or type(value[2]) is str and value[2] == mark for mark in marks):
        return False
    return all(is_name(name) for name in value[3]) and len({*value[3]}) == len(value[3])


class Stock:
    """What a warehouse should have."""

    def __init__(self, schemas):
        self.schemas = schemas
        self.members = [{} for _ in schemas]
        self.facts = {}
        self.history = []

    def base(self):
        return [schema.base for schema in self.schemas]

    def entries(self, place):
        """The entries of a dimension in ascending order, with ascending parents."""
        return [self.members[place][name] for name in sorted(self.members[place])]

    def is_cell(self, value):
        """Whether a value is a cell of the base view."""
        if type(value) is not tuple or len(value) != len(self.schemas):
            return False
        return all(type(name) is str and name in members and members[name][1] == level
                   for name, members, level in zip(value, self.members, self.base()))

    def named(self, place):
        """The names that stand in cells of facts in a dimension."""
        return {cell[place] for cell in self.facts}

    def wrong(self, deed):
        """The error of a deed that has the form of one, as a pair (class, fields); None if it is possible."""
        return {"put": self.wrong_put, "remove": self.wrong_remove, "fact": self.wrong_fact,
                "clear": self.wrong_clear}[deed[0]](*deed[1:])

    def wrong_put(self, place, *entries):
        schema, names = self.schemas[place], []
        for index, entry in enumerate(entries):
            if not is_entry(schema, entry) or entry[0] in names:
                return InvalidMembers, {"index": index}
            names.append(entry[0])
        for entry in entries:
            if entry[0] in self.named(place) and entry[1] != schema.base:
                return HasFacts, {"value": entry[0]}
        other = copy.deepcopy(self.members[place])
        other.update({entry[0]: entry for entry in entries})
        return self.wrong_members(schema, [other[name] for name in sorted(other)])

    def wrong_members(self, schema, entries):
        """The error of a hierarchy of all these members."""
        levels = {entry[0]: entry[1] for entry in entries}
        for name, level, _, parents in entries:
            if any(parent not in levels or (level, levels[parent]) not in schema.links for parent in parents):
                return InvalidParents, {"member": name}
        for entry in entries:
            found = [levels[name] for name in places.reach(entries, entry[0])]
            if len(found) > len(set(found)):
                return TwoAncestors, {"member": entry[0]}
        for entry in entries:
            shape = model.shape_of(places.plain_shape(entries, entry[0]))
            for index, (level, condition) in enumerate(schema.rules):
                if level == entry[1] and not condition(shape):
                    return BrokenRule, {"member": entry[0], "index": index}
        return None

    def wrong_remove(self, place, *names):
        members = self.members[place]
        for index, name in enumerate(names):
            if type(name) is not str or name not in members or name in names[:index]:
                return UnknownMember, {"value": name}
        for name in names:
            if name in self.named(place):
                return HasFacts, {"value": name}
        for name in names:
            if any(name in entry[3] for entry in members.values() if entry[0] not in names):
                return HasChildren, {"value": name}
        return None

    def wrong_fact(self, cell, amount):
        if not self.is_cell(cell):
            return InvalidCell, {"value": cell}
        if not is_integer(amount):
            return InvalidAmount, {"value": amount}
        return None

    def wrong_clear(self, cell):
        if not self.is_cell(cell) or cell not in self.facts:
            return MissingFact, {"value": cell}
        return None

    def after(self, deed):
        """The stock after a deed that is possible."""
        other = Stock(self.schemas)
        other.members = [dict(members) for members in self.members]
        other.facts = dict(self.facts)
        other.history = [*self.history, deed]
        word, *rest = deed
        if word == "put":
            for name, level, mark, parents in rest[1:]:
                other.members[rest[0]][name] = (name, level, mark, tuple(sorted(parents)))
        elif word == "remove":
            for name in rest[1:]:
                del other.members[rest[0]][name]
        elif word == "fact":
            other.facts[rest[0]] = rest[1]
        else:
            del other.facts[rest[0]]
        return other


def random_put(chance, stock, place):
    """A deed that puts members, most often possible ones."""
    schema = stock.schemas[place]
    entries = stock.entries(place)
    many = len(entries)
    shapes = [shape for level in schema.levels for shape in schema.shapes(level)]
    base = list(schema.shapes(schema.base)) or shapes
    for _ in range(chance.choice((0, 1, 1, 2))):
        if shapes:
            places.put_in(chance, entries, chance.choice(base if chance.random() < 0.6 else shapes), 0.8)
    added = entries[many:]
    chance.shuffle(added)
    for entry in chance.sample(entries[:many], min(many, chance.choice((0, 0, 1, 2)))):
        changed = list(entry)
        if chance.random() < 0.7:
            changed[2] = chance.choice(schema.marks_of(entry[1]) or (None,))
        if chance.random() < 0.2:
            changed[1] = chance.choice(schema.levels)
        if chance.random() < 0.6:
            near = chance.random() < 0.8
            uppers = [other[0] for other in entries if not near or (entry[1], other[1]) in schema.links]
            changed[3] = tuple(chance.sample(uppers, min(len(uppers), chance.randint(0, 2))))
        added.append(tuple(changed))
    return ("put", place, *added)


def random_deed(chance, stock, odd):
    """A deed that is often possible, and sometimes wrong at one place."""
    place = chance.randrange(len(stock.schemas))
    names = sorted(stock.members[place])
    cells = places.cells_of([stock.entries(at) for at in range(len(stock.schemas))], stock.base())
    word = chance.choice(("put", "put", "put", "remove", "fact", "fact", "fact", "clear"))
    if word == "put":
        deed = random_put(chance, stock, place)
    elif word == "remove":
        tops = [name for name in names if not any(name in entry[3] for entry in stock.members[place].values())]
        known = names if chance.random() < 0.5 else tops
        deed = ("remove", place, *chance.sample(known, min(len(known), chance.choice((0, 1, 1, 2, 3)))))
    elif word == "fact" and cells:
        deed = ("fact", chance.choice(cells), chance.choice((0, 1, -1, chance.randint(-99, 99), 10 ** 50)))
    else:
        known = sorted(stock.facts) if chance.random() < 0.7 else cells
        deed = ("clear", chance.choice(known) if known else ("x",) * len(stock.schemas))
    if chance.random() < 0.12 and len(deed) > 1:
        at = chance.randrange(1, len(deed))
        deed = (*deed[:at], chance.choice(odd), *deed[at + 1:])
    return deed
