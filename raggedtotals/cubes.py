"""Cubes: the schemas of up to three dimensions, and their views."""

from raggedtotals.errors import InvalidSchemas, InvalidStored, InvalidView, NotACube
from raggedtotals.limits import EVERYTHING, MAX_DIMENSIONS, MAX_STORED
from raggedtotals.schemas import Schema, is_level


def check_schemas(schemas):
    """Raise InvalidSchemas if these values are not the schemas of a cube."""
    if len(schemas) < 1 or len(schemas) > MAX_DIMENSIONS:
        raise InvalidSchemas(None)
    for index, schema in enumerate(schemas):
        if not isinstance(schema, Schema):
            raise InvalidSchemas(index)


def is_everything(value):
    """Whether any value is the sign for everything."""
    return isinstance(value, str) and value == EVERYTHING


def check_cube(value):
    """Raise NotACube if the value is not a cube."""
    if not isinstance(value, Cube):
        raise NotACube(value)


def check_view(cube, value):
    """Raise InvalidView if the value is not a view of the cube."""
    if not cube.is_view(value):
        raise InvalidView(value)


def check_stored(cube, stored):
    """Raise InvalidStored if the value is not a tuple of views of the cube, not too many of them."""
    if not isinstance(stored, tuple) or len(stored) > MAX_STORED:
        raise InvalidStored(None)
    for index, view in enumerate(stored):
        if not cube.is_view(view):
            raise InvalidStored(index)


def check_different(cube, views):
    """Raise InvalidStored if the value is not a tuple of different views of the cube, not too many of them."""
    if not isinstance(views, tuple) or len(views) > MAX_STORED:
        raise InvalidStored(None)
    for index, view in enumerate(views):
        if not cube.is_view(view) or view in views[:index]:
            raise InvalidStored(index)


class Cube:
    """One to three dimensions, each with a schema."""

    def __init__(self, *schemas):
        check_schemas(schemas)
        self._schemas = schemas
        self._base = tuple([schema.base for schema in schemas])

    @property
    def schemas(self):
        """The tuple of the schemas of the dimensions."""
        return self._schemas

    @property
    def base(self):
        """The base view, with the base of each schema."""
        return self._base

    def is_view(self, value):
        """Whether any value is a view of the cube."""
        if not isinstance(value, tuple) or len(value) != len(self._schemas):
            return False
        return all([is_everything(place) or is_level(schema, place) for schema, place in zip(self._schemas, value)])

    def __len__(self):
        return len(self._schemas)

    def __eq__(self, other):
        return isinstance(other, Cube) and self._schemas == other._schemas
