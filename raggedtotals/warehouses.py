"""Warehouses: members and facts that change by deeds, and stored totals that answer for them."""

from raggedtotals.blindspots import find_blind_spot
from raggedtotals.cubes import Cube, check_different, check_view
from raggedtotals.datasets import Dataset, check_cell, totals_by_cell
from raggedtotals.deeds import check_deeds, dataset_after
from raggedtotals.errors import NotAWarehouse, NotDetermined, NothingToUndo, NotStored
from raggedtotals.hierarchies import Hierarchy
from raggedtotals.sums import find_formula


def check_warehouse(value):
    """Raise NotAWarehouse if the value is not a warehouse."""
    if not isinstance(value, Warehouse):
        raise NotAWarehouse(value)


class State:
    """All that a warehouse shows at one time; a turn makes a new one, so going back is simple."""

    def __init__(self, present, deeds, earlier, stored):
        self.present = present
        self.deeds = deeds
        # The datasets before each of the deeds.
        self.earlier = earlier
        self.stored_views = stored
        self.tables = tuple([totals_by_cell(present, view) for view in stored])


def state_after(state, deed):
    """The state after a deed that has the form of one."""
    present = dataset_after(state.present, deed)
    return State(present, (*state.deeds, deed), (*state.earlier, state.present), state.stored_views)


def formula_in(state, view, cell):
    """The formula for a cell of a view by the stored views."""
    cube, stored = state.present.cube, state.stored_views
    check_view(cube, view)
    check_cell(state.present, view, cell)
    formula = find_formula(cube, view, stored)
    if formula is None:
        raise NotDetermined(find_blind_spot(cube, view, stored))
    return formula


def total_in(state, view, cell):
    """The total of a cell of a view by the stored totals alone."""
    formula = formula_in(state, view, cell)
    return formula.answer_by(state.present, cell, state.tables)


class Warehouse:
    """Hierarchies, facts, stored views with their totals, and a history of deeds."""

    def __init__(self, *schemas, views=()):
        self._cube = Cube(*schemas)
        check_different(self._cube, views)
        hierarchies = [Hierarchy(schema) for schema in schemas]
        self._state = State(Dataset(*hierarchies), (), (), views)

    def do(self, deed):
        """Do a deed."""
        self.do_all(deed)

    def do_all(self, *deeds, watch=None):
        """Do all deeds in order, or none, and let a function look at the warehouse after each of them."""
        check_deeds(self._cube, deeds)
        good = self._state
        try:
            for index, deed in enumerate(deeds):
                self._state = state_after(self._state, deed)
                if watch is not None:
                    watch(self, index)
            good = self._state
        finally:
            self._state = good

    def undo(self):
        """Take back the last deed of the history."""
        state = self._state
        if not state.deeds:
            raise NothingToUndo()
        self._state = State(state.earlier[-1], state.deeds[:-1], state.earlier[:-1], state.stored_views)

    @property
    def dataset(self):
        """The present dataset."""
        return self._state.present

    @property
    def cube(self):
        """The cube of the schemas."""
        return self._cube

    @property
    def history(self):
        """The tuple of the deeds that were done and not taken back."""
        return self._state.deeds

    @property
    def views(self):
        """The tuple of the stored views."""
        return self._state.stored_views

    @views.setter
    def views(self, value):
        """Store other views; this is no deed."""
        check_different(self._cube, value)
        state = self._state
        self._state = State(state.present, state.deeds, state.earlier, value)

    def kept(self, view):
        """The stored totals of a stored view, for all its cells."""
        state = self._state
        if not self._cube.is_view(view) or view not in state.stored_views:
            raise NotStored(view)
        table = state.tables[state.stored_views.index(view)]
        return tuple([(cell, table.get(cell, 0)) for cell in state.present.cells(view)])

    def ask(self, view, cell):
        """The total of the cell, from the stored totals alone."""
        return total_in(self._state, view, cell)

    def sources(self, view, cell):
        """The stored cells that a formula uses for the cell, with their indexes and weights."""
        return formula_in(self._state, view, cell).used(self._state.present, cell)

    def total_after(self, view, cell, deeds):
        """The total of the cell after deeds, which are not done."""
        check_deeds(self._cube, deeds)
        state = self._state
        for deed in deeds:
            state = state_after(state, deed)
        return total_in(state, view, cell)

    def __len__(self):
        return len(self._state.present)

    def __repr__(self):
        return f"Warehouse({len(self._cube)} dimensions, {len(self)} facts, {len(self.views)} views)"


def set_views(warehouse, views):
    """Let a warehouse store other views."""
    check_warehouse(warehouse)
    warehouse.views = views


def what_if(warehouse, view, cell, *deeds):
    """The total of the cell after deeds, while the warehouse stays as it is."""
    check_warehouse(warehouse)
    check_view(warehouse.cube, view)
    return warehouse.total_after(view, cell, deeds)
