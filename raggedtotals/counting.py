"""For how many stored views base cell shapes count, and weights of whole views."""

from raggedtotals.cellshapes import check_few
from raggedtotals.datasets import Dataset
from raggedtotals.equations import counts_at
from raggedtotals.errors import InvalidTimes
from raggedtotals.hierarchies import example_of
from raggedtotals.integers import is_integer
from raggedtotals.linear import solve
from raggedtotals.sums import check_question


def check_times(value):
    """Raise InvalidTimes if the value is not an integer from 0 on."""
    if not is_integer(value) or value < 0:
        raise InvalidTimes(value)


def counted(cube, wanted, stored):
    """The least and the greatest number of indexes for which base cell shapes count; None if none passes."""
    check_question(cube, wanted, stored)
    check_few(cube, wanted)
    numbers = [len(indexes) for _, indexes in counts_at(cube, wanted, stored)]
    if not numbers:
        return None
    return min(numbers), max(numbers)


def example_counted(cube, wanted, stored, times):
    """A dataset with one fact, and a cell into which it goes by so many indexes; None if there is none."""
    check_question(cube, wanted, stored)
    check_times(times)
    check_few(cube, wanted)
    for shapes, indexes in counts_at(cube, wanted, stored):
        if len(indexes) == times:
            hierarchies = [example_of(schema, shape) for schema, shape in zip(cube.schemas, shapes)]
            # Members of examples have the names of their levels, so views are cells, too.
            facts = ((cube.base, 1),)
            return Dataset(*hierarchies, facts=facts), wanted
    return None


def weights_or_obstacle(cube, wanted, stored):
    """The pair (view weights, obstacle), one of which is None."""
    counts = counts_at(cube, wanted, stored)
    # Without base cell shapes nothing is asked of the weights, and the equations would not tell their number.
    if not counts:
        return ((0, 1),) * len(stored), None
    rows = tuple([tuple([int(index in indexes) for index in range(len(stored))]) for _, indexes in counts])
    weights, numbers = solve(rows, (1,) * len(rows))
    if numbers is None:
        return weights, None
    return None, tuple([(shapes, number) for (shapes, _), number in zip(counts, numbers) if number != 0])


def view_weights(cube, wanted, stored):
    """Weights of the stored views that add up to 1 for each base cell shape; None if there are none."""
    check_question(cube, wanted, stored)
    check_few(cube, wanted)
    return weights_or_obstacle(cube, wanted, stored)[0]


def obstacle(cube, wanted, stored):
    """Pairs of base cell shapes and integers which show that there are no view weights; None if there are some."""
    check_question(cube, wanted, stored)
    check_few(cube, wanted)
    return weights_or_obstacle(cube, wanted, stored)[1]
