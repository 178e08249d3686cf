"""Hierarchies: members, their parents, and the shapes that they have.

A table of members has the entry of each of them under its name.
"""

from raggedtotals.errors import BrokenRule, InvalidMembers, InvalidParents, NotAllowed, TwoAncestors, UnknownMember
from raggedtotals.names import is_name
from raggedtotals.schemas import check_level, check_schema, is_level
from raggedtotals.shapes import Shape, check_shape


def is_mark_of(schema, level, value):
    """Whether any value is what stands for the mark in the entry of a member of the level."""
    marks = schema.marks_of(level)
    if not marks:
        return value is None
    return isinstance(value, str) and value in marks


def are_names(value):
    """Whether any value is a tuple of different names."""
    if not isinstance(value, tuple):
        return False
    return all([is_name(name) for name in value]) and len(set(value)) == len(value)


def is_entry(schema, value):
    """Whether any value has by itself the form of an entry for the schema."""
    if not isinstance(value, tuple) or len(value) != 4:
        return False
    name, level, mark, parents = value
    if not is_name(name) or not is_level(schema, level):
        return False
    return is_mark_of(schema, level, mark) and are_names(parents)


def table_from(schema, members):
    """The table of the members with these entries, or InvalidMembers if they are not as required."""
    table = {}
    for index, entry in enumerate(members):
        if not is_entry(schema, entry) or entry[0] in table:
            raise InvalidMembers(index)
        name, level, mark, parents = entry
        table[name] = (name, level, mark, tuple(sorted(parents)))
    return table


def check_parents(schema, table):
    """Raise InvalidParents if a member has a parent that it must not have."""
    for name, level, _, parents in table.values():
        for parent in parents:
            if parent not in table or (level, table[parent][1]) not in schema.links:
                raise InvalidParents(name)


def reached_members(table):
    """For each member the list of the names of the members that it reaches, itself first."""
    found = {}
    while len(found) < len(table):
        for name, _, _, parents in table.values():
            if name not in found and all([parent in found for parent in parents]):
                # A dict, since several parents may reach the same member.
                names = {name: True}
                for upper in parents:
                    names.update({other: True for other in found[upper]})
                found[name] = list(names)
    return found


def ancestors_by_level(table):
    """For each member the names of the members that it reaches by their levels, or TwoAncestors."""
    reached = reached_members(table)
    found = {}
    for name in table:
        levels = {table[other][1]: other for other in reached[name]}
        if len(levels) < len(reached[name]):
            raise TwoAncestors(name)
        found[name] = levels
    return found


def shapes_by_name(table, ancestors):
    """For each member its shape."""
    made = {}
    found = {}
    for name in table:
        level = table[name][1]
        rows = [table[other] for other in ancestors[name].values()]
        links = tuple(sorted([(row[1], table[parent][1]) for row in rows for parent in row[3]]))
        marks = tuple(sorted([(row[1], row[2]) for row in rows if row[2] is not None]))
        # Many members have equal shapes; each of these is made once.
        if (level, links, marks) not in made:
            made[(level, links, marks)] = Shape(level, *links, marks=marks)
        found[name] = made[(level, links, marks)]
    return found


def broken_rule(schema, shape):
    """The index of the first rule of its level that the shape does not keep; None if there is none."""
    for index, (level, condition) in enumerate(schema.rules):
        if level == shape.level and not condition(shape):
            return index
    return None


def check_broken(schema, shapes):
    """Raise BrokenRule if a member, of those with these shapes by their names, does not keep a rule."""
    found = {}
    for name, shape in shapes.items():
        text = str(shape)
        if text not in found:
            found[text] = broken_rule(schema, shape)
        if found[text] is not None:
            raise BrokenRule(name, found[text])


def check_member(hierarchy, value):
    """Raise UnknownMember if the value is not the name of a member of the hierarchy."""
    if value not in hierarchy:
        raise UnknownMember(value)


class Hierarchy:
    """Members of the levels of a schema, each with its parents, that keep the rules."""

    def __init__(self, schema, *members):
        check_schema(schema)
        table = table_from(schema, members)
        check_parents(schema, table)
        ancestors = ancestors_by_level(table)
        shapes = shapes_by_name(table, ancestors)
        check_broken(schema, shapes)
        self._schema = schema
        self._table = table
        self._ancestors = ancestors
        self._shapes = shapes
        self._names = tuple(sorted(table))
        self._entries = tuple([table[name] for name in self._names])
        self._by_level = {
            level: tuple([name for name in self._names if table[name][1] == level]) for level in schema.levels
        }

    @staticmethod
    def of(schema, members):
        """The hierarchy with the entries of a tuple."""
        check_schema(schema)
        if not isinstance(members, tuple):
            raise InvalidMembers(None)
        return Hierarchy(schema, *members)

    @property
    def schema(self):
        """The schema whose levels, links and rules these are."""
        return self._schema

    @property
    def entries(self):
        """The ascending tuple of the entries, each with ascending parents."""
        return self._entries

    def members(self, level):
        """The ascending tuple of the names of the members of this level."""
        check_level(self._schema, level)
        return self._by_level[level]

    def entry(self, name):
        """The entry of the member."""
        check_member(self, name)
        return self._table[name]

    def shape(self, name):
        """The shape of the member."""
        check_member(self, name)
        return self._shapes[name]

    def ancestor(self, name, level):
        """The name of the member of this level that the member reaches; None if there is none."""
        check_member(self, name)
        check_level(self._schema, level)
        return self._ancestors[name].get(level)

    def below(self, name, level):
        """The ascending tuple of the members of this level that reach the member."""
        check_member(self, name)
        check_level(self._schema, level)
        upper = self._table[name][1]
        return tuple([other for other in self._by_level[level] if self._ancestors[other].get(upper) == name])

    def __len__(self):
        return len(self._names)

    def __contains__(self, value):
        return isinstance(value, str) and value in self._table

    def __iter__(self):
        return iter(self._names)

    def __eq__(self, other):
        return isinstance(other, Hierarchy) and self._schema == other._schema and self._entries == other._entries

    def __repr__(self):
        return f"Hierarchy({len(self._names)} members)"


def example_of(schema, shape):
    """The hierarchy with one member for each level of the shape, with the name of the level."""
    check_schema(schema)
    check_shape(shape)
    if not schema.allows(shape):
        raise NotAllowed(shape)
    entries = []
    for level in shape.levels:
        parents = tuple([upper for lower, upper in shape.links if lower == level])
        entries.append((level, level, shape.mark(level), parents))
    return Hierarchy(schema, *entries)
