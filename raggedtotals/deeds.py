"""Deeds: their forms, and what each of them makes of the dataset of a warehouse."""

from raggedtotals.datasets import Dataset, check_cell, is_cell_of
from raggedtotals.errors import (
    HasChildren, HasFacts, InvalidAmount, InvalidDeed, MissingFact, UnknownMember,
)
from raggedtotals.hierarchies import Hierarchy, table_from
from raggedtotals.integers import is_integer


def is_deed(cube, value):
    """Whether any value has the form of a deed for a warehouse with the schemas of the cube."""
    if not isinstance(value, tuple) or len(value) < 2 or not isinstance(value[0], str):
        return False
    word = value[0]
    if word in ("put", "remove"):
        return is_integer(value[1]) and value[1] in range(len(cube))
    return word == "fact" and len(value) == 3 or word == "clear" and len(value) == 2


def check_deeds(cube, deeds):
    """Raise InvalidDeed if one of these values does not have the form of a deed."""
    for index, deed in enumerate(deeds):
        if not is_deed(cube, deed):
            raise InvalidDeed(index)


def names_in_facts(dataset, place):
    """The names that stand in the cells of facts in a dimension, as keys."""
    return {cell[place]: True for cell, _ in dataset.facts}


def with_hierarchy(dataset, place, hierarchy):
    """The dataset with this hierarchy in a dimension, and with the same facts."""
    hierarchies = list(dataset.hierarchies)
    hierarchies[place] = hierarchy
    facts = dataset.facts
    return Dataset(*hierarchies, facts=facts)


def after_put(dataset, place, entries):
    """The dataset in which these entries are members of a dimension, in the place of those with the same names."""
    hierarchy = dataset.hierarchies[place]
    schema = hierarchy.schema
    added = table_from(schema, entries)
    used = names_in_facts(dataset, place)
    for name, level, _, _ in added.values():
        if name in used and level != schema.base:
            raise HasFacts(name)
    before = {entry[0]: entry for entry in hierarchy.entries}
    table = {**before, **added}
    members = [table[name] for name in sorted(table)]
    return with_hierarchy(dataset, place, Hierarchy(schema, *members))


def after_remove(dataset, place, names):
    """The dataset in which the members with these names are no longer in a dimension."""
    hierarchy = dataset.hierarchies[place]
    gone = {}
    for name in names:
        if name not in hierarchy or name in gone:
            raise UnknownMember(name)
        gone[name] = True
    used = names_in_facts(dataset, place)
    for name in names:
        if name in used:
            raise HasFacts(name)
    members = [entry for entry in hierarchy.entries if entry[0] not in gone]
    parents = {parent: True for entry in members for parent in entry[3]}
    for name in names:
        if name in parents:
            raise HasChildren(name)
    return with_hierarchy(dataset, place, Hierarchy(hierarchy.schema, *members))


def with_amounts(dataset, amounts):
    """The dataset with the facts that have these amounts by their cells."""
    return dataset.with_facts(tuple([(cell, amounts[cell]) for cell in amounts]))


def after_fact(dataset, cell, amount):
    """The dataset in which the fact with this cell has this amount."""
    check_cell(dataset, dataset.cube.base, cell)
    if not is_integer(amount):
        raise InvalidAmount(amount)
    amounts = {place: number for place, number in dataset.facts}
    amounts[cell] = amount
    return with_amounts(dataset, amounts)


def after_clear(dataset, cell):
    """The dataset in which the fact with this cell is no longer there."""
    amounts = {place: number for place, number in dataset.facts}
    # Only what is surely a cell can be looked up: any value may stand in its place.
    if not is_cell_of(dataset.hierarchies, dataset.cube.base, cell) or cell not in amounts:
        raise MissingFact(cell)
    return with_amounts(dataset, {place: amounts[place] for place in amounts if place != cell})


def dataset_after(dataset, deed):
    """The dataset after a deed that has the form of one."""
    word, *rest = deed
    if word == "put":
        return after_put(dataset, rest[0], rest[1:])
    if word == "remove":
        return after_remove(dataset, rest[0], rest[1:])
    if word == "fact":
        return after_fact(dataset, *rest)
    return after_clear(dataset, *rest)
