"""Reports: what stored views are good for, a line for each wanted view."""

from raggedtotals.cellshapes import check_few
from raggedtotals.counting import weights_or_obstacle
from raggedtotals.cubes import check_cube, check_stored, check_view
from raggedtotals.equations import counts_at
from raggedtotals.sums import is_determined


def word_for(cube, view, stored):
    """The word that tells how far the stored views determine a view."""
    if all([len(indexes) == 1 for _, indexes in counts_at(cube, view, stored)]):
        return "plain"
    weights, _ = weights_or_obstacle(cube, view, stored)
    if weights is not None:
        return "weights"
    if is_determined(cube, view, stored):
        return "shapes"
    if is_determined(cube, view, stored, measure="greatest"):
        return "greatest"
    return "open"


def report(cube, stored, *views):
    """A text with a line for each of these views."""
    check_cube(cube)
    check_stored(cube, stored)
    for view in views:
        check_view(cube, view)
    for view in views:
        check_few(cube, view)
    return "\n".join([",".join(view) + ": " + word_for(cube, view, stored) for view in views])
