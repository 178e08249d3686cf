"""Systems of linear equations: solutions, obstacles, and what is no system."""

import itertools
import random
import unittest
from fractions import Fraction
from math import gcd

from raggedtotals.errors import InvalidGoal, InvalidRows
from raggedtotals.integers import are_integers, is_integer
from raggedtotals.linear import solve
from tests.helpers import Case, odd_values
from tests.places import Sly


class LinearCase(Case):
    def check(self, rows, goal):
        """Check that a system is solved or refuted; return whether it is solved."""
        found = solve(rows, goal)
        self.assertIs(type(found), tuple)
        solution, obstacle = found
        self.assertEqual((solution is None) + (obstacle is None), 1)
        if solution is None:
            self.check_obstacle(rows, goal, obstacle)
        else:
            self.check_solution(rows, goal, solution)
        self.same(solve(goal=goal, rows=rows), found)
        return solution is not None

    def check_solution(self, rows, goal, solution):
        self.assertIs(type(solution), tuple)
        self.assertEqual(len(solution), len(rows[0]) if rows else 0)
        for pair in solution:
            self.assertIs(type(pair), tuple)
            self.assertEqual([type(number) for number in pair], [int, int])
            self.assertTrue(pair[1] >= 1)
            self.assertEqual(gcd(*pair), 1)
        values = [Fraction(*pair) for pair in solution]
        for row, number in zip(rows, goal):
            self.assertEqual(sum(factor * value for factor, value in zip(row, values)), number)

    def check_obstacle(self, rows, goal, obstacle):
        self.assertIs(type(obstacle), tuple)
        self.assertEqual([type(number) for number in obstacle], [int] * len(rows))
        for column in zip(*rows):
            self.assertEqual(sum(number * factor for number, factor in zip(column, obstacle)), 0)
        self.assertNotEqual(sum(number * factor for number, factor in zip(goal, obstacle)), 0)


class SolveTest(LinearCase):
    def test_examples(self):
        solution, obstacle = solve(((1, 1), (1, 0), (0, 1)), (1, 1, 1))
        found = [
            solve(((2, 0), (1, 1)), (1, 1)), solution, obstacle[0] + obstacle[1], obstacle[0] + obstacle[2],
            sum(obstacle) != 0, solve(((0, 0),), (3,))[1] is None, solve((), ()),
        ]
        self.same(found, [(((1, 2), (1, 2)), None), None, 0, 0, True, False, ((), None)])

    def test_no_rows_and_no_columns(self):
        self.same(solve((), ()), ((), None))
        self.same(solve(((),), (0,)), ((), None))
        self.same(solve(((), (), ()), (0, 0, 0)), ((), None))
        self.assertIs(self.check(((),), (1,)), False)
        self.assertIs(self.check(((), (), ()), (0, -2, 0)), False)

    def test_one_equation(self):
        self.same(solve(((3,),), (6,)), (((2, 1),), None))
        self.same(solve(((-3,),), (6,)), (((-2, 1),), None))
        self.same(solve(((-4,),), (-6,)), (((3, 2),), None))
        self.same(solve(((6,),), (-4,)), (((-2, 3),), None))
        self.same(solve(((5,),), (0,)), (((0, 1),), None))
        self.same(solve(((0,),), (0,))[1], None)
        self.assertIs(self.check(((0,),), (7,)), False)
        self.assertIs(self.check(((0, 0, 4),), (7,)), True)

    def test_all_small_systems(self):
        numbers = (-2, 0, 1, 3)
        solved = 0
        for rows in itertools.product(itertools.product(numbers, repeat=2), repeat=2):
            for goal in itertools.product((0, 1, -3), repeat=2):
                solved += self.check(rows, goal)
        self.assertTrue(500 < solved < 256 * 9)

    def test_random_systems(self):
        chance = random.Random(1)
        seen = {True: 0, False: 0}
        for _ in range(500):
            height, width = chance.randint(1, 7), chance.randint(0, 7)
            top = chance.choice((1, 2, 5, 10 ** 20))
            rows = [tuple(chance.randint(-top, top) for _ in range(width)) for _ in range(height)]
            # Rows that depend on others make both kinds of answers likely.
            for at in range(1, height):
                if chance.random() < 0.5:
                    times, first = chance.randint(-2, 2), chance.choice(rows[:at])
                    rows[at] = tuple(times * one + other for one, other in zip(first, chance.choice(rows[:at])))
            goal = tuple(chance.randint(-top, top) for _ in range(height))
            if chance.random() < 0.6:
                values = [chance.randint(-9, 9) for _ in range(width)]
                goal = tuple(sum(factor * value for factor, value in zip(row, values)) for row in rows)
            seen[self.check(tuple(rows), goal)] += 1
        self.assertTrue(seen[True] > 100 and seen[False] > 50, seen)

    def test_long_integers(self):
        chance = random.Random(2)
        top = 10 ** 60 - 1
        for size in (1, 2, 5, 12):
            rows = tuple(tuple(chance.randint(-top, top) for _ in range(size)) for _ in range(size))
            goal = tuple(chance.randint(-top, top) for _ in range(size))
            self.assertIs(self.check(rows, goal), True)
            double = rows + (tuple(2 * number for number in rows[0]),)
            self.assertIs(self.check(double, goal + (2 * goal[0],)), True)
            self.assertIs(self.check(double, goal + (2 * goal[0] + 1,)), False)
        self.same(solve(((top, 0), (0, -top)), (-top, 1)), (((-1, 1), (-1, top)), None))

    def test_large_systems(self):
        chance = random.Random(3)
        for height, width in ((60, 40), (40, 60), (60, 300)):
            rows = tuple(tuple(int(chance.random() < 0.2) for _ in range(width)) for _ in range(height))
            self.check(rows, (1,) * height)

    def test_what_is_given_stays(self):
        rows, goal = ((2, 4), (0, 0)), (6, 0)
        solve(rows, goal)
        self.same([rows, goal], [((2, 4), (0, 0)), (6, 0)])


class WrongTest(Case):
    def test_rows_that_are_no_tuple(self):
        for value in odd_values() + [[(1, 2)], [[1, 2]], {(1,): (2,)}, "12", range(2), Sly()]:
            if isinstance(value, tuple):
                continue
            with self.subTest(value=value):
                self.raises(InvalidRows, {"index": None}, solve, value, (1,))
                self.raises(InvalidRows, {"index": None}, solve, goal=5, rows=value)

    def test_elements_that_are_no_rows(self):
        wrong = odd_values() + [[1, 2], (1, True), (False, 1), (1, None), (1, "1"), (1, (1,)), (1, [2]), (1, Sly())]
        for value in wrong:
            if value in ((1, 2), ()) and isinstance(value, tuple):
                continue
            with self.subTest(value=value):
                self.raises(InvalidRows, {"index": 0}, solve, (value,), (1,))
                self.raises(InvalidRows, {"index": 0}, solve, (value, 5), 5)
                self.raises(InvalidRows, {"index": 1}, solve, ((1, 2), value, 5), (1, 1, 1))
                self.raises(InvalidRows, {"index": 2}, solve, ((1, 2), (3, 4), value), ())

    def test_rows_of_other_lengths(self):
        for rows, index in (
            (((1, 2), (1,)), 1), (((1, 2), (1, 2, 3)), 1), (((1, 2), (3, 4), ()), 2), (((), (1,)), 1),
            (((), (), (1,), 5), 2), (((1,), (2, True)), 1), (((1,), (2, 3), (True,)), 1), (((1,), (True,), (2, 3)), 1),
        ):
            with self.subTest(rows):
                self.raises(InvalidRows, {"index": index}, solve, rows, (0,) * len(rows))
                self.raises(InvalidRows, {"index": index}, solve, rows, None)

    def test_goals_that_are_no_tuple_or_of_another_length(self):
        for value in [5, None, True, "a", [1], [], {}, {1: 1}, b"1", Sly(), (), (1, 2), (True, True), ("a", "b", "c")]:
            with self.subTest(value=value):
                self.raises(InvalidGoal, {"index": None}, solve, ((1, 2),), value)
                self.raises(InvalidGoal, {"index": None}, solve, rows=((0, 0),), goal=value)
        for value in (None, [], (1,), ((),), 0):
            self.raises(InvalidGoal, {"index": None}, solve, (), value)

    def test_elements_that_are_no_integers(self):
        for value in odd_values() + [Sly(), "1", (1,), [1]]:
            if is_integer(value):
                continue
            with self.subTest(value=value):
                self.raises(InvalidGoal, {"index": 0}, solve, ((1, 2),), (value,))
                self.raises(InvalidGoal, {"index": 1}, solve, ((1,), (2,), (3,)), (0, value, value))
                self.raises(InvalidGoal, {"index": 2}, solve, ((), (), ()), (0, 0, value))

    def test_rows_come_before_the_goal(self):
        self.raises(InvalidRows, {"index": None}, solve, [1], [1])
        self.raises(InvalidRows, {"index": 0}, solve, (1,), (True,))
        self.raises(InvalidRows, {"index": 1}, solve, ((1,), (True,)), 5)

    def test_integers(self):
        for value in odd_values() + [Sly(), 7]:
            wanted = type(value) is int
            self.assertIs(is_integer(value), wanted)
            self.assertIs(are_integers((1, value)), wanted)
            self.assertIs(are_integers(value), isinstance(value, tuple) and value == (1, 2))
        self.assertIs(are_integers(()), True)
        self.assertIs(are_integers([1]), False)


if __name__ == "__main__":
    unittest.main()
