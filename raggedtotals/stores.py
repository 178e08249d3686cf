"""Plans: the cheapest views to store, with the blind spots of all that would be cheaper."""

from raggedtotals.blindspots import total_spot
from raggedtotals.cellshapes import check_few
from raggedtotals.choices import cheapest_good
from raggedtotals.cubes import check_cube, check_stored
from raggedtotals.datasets import totals_differ
from raggedtotals.equations import equations_of, groups_at, obstacle_of_ones, rows_among
from raggedtotals.errors import InvalidPrices, InvalidWanted
from raggedtotals.integers import is_integer
from raggedtotals.limits import MAX_WANTED


class Plan:
    """A cheapest set of candidates that determines all wanted views, and the evidence that none is cheaper."""

    def __init__(self, chosen, price, evidence):
        self._chosen = chosen
        self._price = price
        self._evidence = evidence

    @property
    def chosen(self):
        """The ascending tuple of the indexes of the chosen candidates."""
        return self._chosen

    @property
    def price(self):
        """The sum of their prices."""
        return self._price

    @property
    def evidence(self):
        """The tuple of pairs of an index of a wanted view and a blind spot for it."""
        return self._evidence


def check_wanteds(cube, wanteds):
    """Raise InvalidWanted if the value is not a tuple of views of the cube, not too many of them and not none."""
    if not isinstance(wanteds, tuple) or len(wanteds) < 1 or len(wanteds) > MAX_WANTED:
        raise InvalidWanted(None)
    for index, view in enumerate(wanteds):
        if not cube.is_view(view):
            raise InvalidWanted(index)


def check_prices(prices, count):
    """Raise InvalidPrices if the value is not a tuple of so many integers from 1 on."""
    if not isinstance(prices, tuple) or len(prices) != count:
        raise InvalidPrices(None)
    for index, price in enumerate(prices):
        if not is_integer(price) or price < 1:
            raise InvalidPrices(index)


def systems_of(cube, wanteds, candidates):
    """The tuples (index of a wanted view, base cell shapes, columns, rows) of the equations for all parts there."""
    found = []
    for index, wanted in enumerate(wanteds):
        for part, group in groups_at(cube, wanted):
            columns, rows = equations_of(part, group, candidates)
            found.append((index, group, columns, rows))
    return found


def refuted(system, chosen):
    """The obstacle of a system if only the chosen candidates are stored; None if there is none."""
    _, _, columns, rows = system
    return obstacle_of_ones(rows_among(columns, rows, chosen))


def widened(system, chosen, count):
    """The chosen ones, and as many of the other candidates as leave an obstacle."""
    wide = list(chosen)
    for index in range(count):
        if index not in wide and refuted(system, [*wide, index]) is not None:
            wide.append(index)
    return wide


def wide_spot(cube, wanteds, candidates, system, chosen):
    """The pair (index of the wanted view, blind spot) of a system that the chosen candidates leave unsettled.

    The blind spot is one for as many candidates as can be, so that it speaks against many other sets, too.
    """
    index, group, _, _ = system
    numbers = refuted(system, widened(system, chosen, len(candidates)))
    return index, total_spot(cube, wanteds[index], list(zip(group, numbers)))


def seers_of(candidates, spot):
    """The indexes of the candidates that see a blind spot."""
    return [index for index, view in enumerate(candidates) if totals_differ(spot.first, spot.second, view)]


def plan_of(cube, wanteds, candidates, prices):
    """A plan for views that are as required; None if there is none."""
    systems = systems_of(cube, wanteds, candidates)

    def hurdle_for(chosen):
        """The candidates that see a blind spot which the chosen ones do not see, and this as evidence."""
        for system in systems:
            if refuted(system, chosen) is not None:
                index, spot = wide_spot(cube, wanteds, candidates, system, chosen)
                return seers_of(candidates, spot), (index, spot)
        return None

    # Without this look at all of them, each smaller set would be tried in vain.
    if hurdle_for(tuple(range(len(candidates)))) is not None:
        return None
    best, price, evidence = cheapest_good(prices, hurdle_for)
    return Plan(best, price, tuple(evidence))


def cheapest(cube, wanteds, candidates, prices):
    """A plan for the wanted views; None if not even all candidates determine them."""
    check_cube(cube)
    check_wanteds(cube, wanteds)
    check_stored(cube, candidates)
    check_prices(prices, len(candidates))
    for wanted in wanteds:
        check_few(cube, wanted)
    return plan_of(cube, wanteds, candidates, prices)
