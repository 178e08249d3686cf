"""Systems of linear equations, solved by fractions or refuted by integers."""

from math import gcd

from raggedtotals.errors import InvalidGoal, InvalidRows
from raggedtotals.integers import are_integers, is_integer


def check_rows(rows):
    """Raise InvalidRows if the value is not a tuple of tuples of integers, all of the same length."""
    if not isinstance(rows, tuple):
        raise InvalidRows(None)
    for index, row in enumerate(rows):
        if not are_integers(row) or len(row) != len(rows[0]):
            raise InvalidRows(index)


def check_goal(goal, count):
    """Raise InvalidGoal if the value is not a tuple of so many integers."""
    if not isinstance(goal, tuple) or len(goal) != count:
        raise InvalidGoal(None)
    for index, number in enumerate(goal):
        if not is_integer(number):
            raise InvalidGoal(index)


def lowest_terms(numerator, denominator):
    """The fraction in lowest terms, with a denominator of at least 1."""
    common = gcd(numerator, denominator)
    if denominator < 0:
        common = -common
    return numerator // common, denominator // common


def divided(numbers):
    """The list of these integers, divided by the greatest integer that divides all of them."""
    common = 0
    for number in numbers:
        common = gcd(common, number)
        if common == 1:
            return numbers
    if common == 0:
        return numbers
    return [number // common for number in numbers]


def first_place(numbers):
    """The index of the first of these integers that is not 0; None if there is none."""
    for place, number in enumerate(numbers):
        if number != 0:
            return place
    return None


def reduced(numbers, pivots):
    """The equation with these integers, with multiples of the others added so that it is 0 at their places."""
    left = numbers
    for place, pivot in pivots:
        if left[place] == 0:
            continue
        common = gcd(left[place], pivot[place])
        times, less = pivot[place] // common, left[place] // common
        left = [times * number - less * other for number, other in zip(left, pivot)]
        # Only products make the integers grow, so there is nothing to gain otherwise.
        if times not in (1, -1):
            left = divided(left)
    return divided(left)


def values_of(pivots, width):
    """Integers and one denominator for all of them that solve these equations; 0 where there is a choice."""
    numbers = [0] * width
    denominator = 1
    # Each equation is 0 at the places of those before it, so the last one is settled first.
    for place, pivot in reversed(pivots):
        known = sum([factor * number for factor, number in zip(pivot[:width], numbers)])
        rest = pivot[width] * denominator - known
        common = gcd(rest, pivot[place])
        times = pivot[place] // common
        numbers = [number * times for number in numbers]
        numbers[place] = rest // common
        *numbers, denominator = divided([*numbers, denominator * times])
    return numbers, denominator


def solution_of(rows, goal, width):
    """Integers and one denominator for all of them that solve the equations; None if there are none."""
    pivots = []
    for row, number in zip(rows, goal):
        left = reduced([*row, number], pivots)
        place = first_place(left)
        # Nothing but the integer of the goal is left, so no values give it.
        if place == width:
            return None
        if place is not None:
            pivots.append((place, left))
    return values_of(pivots, width)


def obstacle_of(rows, goal, width):
    """The obstacle of equations that have no solution."""
    # The sums over the columns and over the goal are equations, too, for the integers of the obstacle.
    columns = [[row[place] for row in rows] for place in range(width)]
    numbers, _ = solution_of([*columns, goal], [0] * width + [1], len(rows))
    return tuple(numbers)


def solve(rows, goal):
    """The pair (solution, obstacle) of a system of linear equations, one of which is None."""
    check_rows(rows)
    check_goal(goal, len(rows))
    if not rows:
        return (), None
    width = len(rows[0])
    found = solution_of(rows, goal, width)
    if found is None:
        return None, obstacle_of(rows, goal, width)
    numbers, denominator = found
    return tuple([lowest_terms(number, denominator) for number in numbers]), None
