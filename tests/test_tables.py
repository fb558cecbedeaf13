"""The inside of balance, point [8]: steps on tables, with rounded numbers and exact ones, and exact solutions."""

import random
import unittest
from unittest import mock

from downweigh.balance import lets_balance, tried
from downweigh.lifting import FIRST_MODULUS, inverse, solved
from downweigh.tables import Line, Table, searched, shared_by

BITS = 192


def table(dice, wide, high, size, full):
    return [
        [dice.randint(-size, size) if dice.random() < full else 0 for place in range(high)] for column in range(wide)
    ]


def goals(dice, columns, size):
    """A goal that is reached, one that hardly is, and one of mere chance."""
    high = len(columns[0])
    yield [sum(column[at] for column in columns[::2]) for at in range(high)]
    yield [0] * (high - 1) + [-1]
    yield [dice.randint(-size, size) for place in range(high)]


class Steps(unittest.TestCase):
    def test_rounded_numbers_do(self):
        # else each large table would wait for exact steps
        dice = random.Random(1)
        for size, full in ((2, 0.1), (9, 0.3), (9, 1), (10 ** 40, 1), (10 ** 6, 0.2)):
            columns = table(dice, 70, 35, size, full)
            for goal in goals(dice, columns, size):
                self.assertTrue(lets_balance(columns, goal, tried(columns, goal, BITS, 500)))

    def test_rounded_numbers_do_where_many_rows_hang_together(self):
        dice = random.Random(2)
        few = table(dice, 12, 60, 3, 1)
        columns = []
        for turn in range(90):
            shares = [dice.randint(-3, 3) for column in few]
            columns.append([sum(share * column[at] for share, column in zip(shares, few)) for at in range(60)])
        for goal in goals(dice, columns, 9):
            self.assertTrue(lets_balance(columns, goal, tried(columns, goal, BITS, 500)))

    def test_exact_numbers_always_do(self):
        dice = random.Random(3)
        for turn in range(200):
            columns = table(dice, dice.randint(1, 12), dice.randint(1, 8), dice.choice((1, 2, 10 ** 40)), dice.random())
            for goal in goals(dice, columns, 2):
                self.assertTrue(lets_balance(columns, goal, tried(columns, goal, None, None)))

    def test_steps_that_cost_nothing_do_not_go_round(self):
        dice = random.Random(4)
        for cost in (0, 1):
            with mock.patch("downweigh.tables.first_costs", lambda columns: [cost for column in columns]):
                for turn in range(300):
                    columns = table(dice, dice.randint(1, 20), dice.randint(1, 10), dice.choice((1, 1, 2)), dice.random())
                    for goal in goals(dice, columns, 1):
                        told = tried(columns, goal, None, 3000)
                        self.assertTrue(lets_balance(columns, goal, told))

    def test_careful_steps_go_by_least_numbers(self):
        # rows that lack by 1, 8, 3 and not at all; the second one by far the most
        rows = [[9, 9, -1], [9, 9, -8], [9, 9, -3], [9, 9, 4]]
        told = Table([[1] * 4, [1] * 4], [1] * 4, None)
        told.lines = [Line(row, False) for row in rows]
        for chosen, hasty, careful in (([5, 7, 2, 0], 1, 2), ([1, 7, 2, 0], 1, 0), ([5, 0, None, 1], 1, 2),
                                       ([5, 3, 4, None], 1, 3), ([None, 3, None, 1], 1, 0)):
            told.chosen = chosen
            for told.careful, at in ((False, hasty), (True, careful)):
                self.assertEqual(told.leaving(), at)
        told.lines = told.lines[3:]
        told.chosen = [1]
        self.assertIsNone(told.leaving())

    def test_steps_that_cost_nothing_make_careful(self):
        for cost in (0, 5):
            with mock.patch("downweigh.tables.first_costs", lambda columns: [cost for column in columns]):
                told = Table([[1, 0], [0, 1]], [1, 1], None)
            self.assertIs(told.careful, False)
            self.assertIs(told.step(0), True)
            self.assertIs(told.careful, cost == 0)

    def test_given_up(self):
        self.assertIsNone(searched([[1]], [1], BITS, 0))
        self.assertIsNone(tried([[1]], [1], BITS, 0))
        self.assertEqual(searched([[1]], [1], BITS, 1), None)
        self.assertEqual(searched([[1]], [1], BITS, 2), ([0], None))
        self.assertEqual(searched([[1]], [-1], BITS, 2), ([None], 0))

    def test_what_divides_all(self):
        for numbers, shared in (([6, -9, 0], 3), ([0, 0, -5], 5), ([4, 6, 9], 1), ([7], 7), ([-8, -12], 4), ([0, 1], 1),
                                ([10 ** 50, 2 * 10 ** 49, 5 * 10 ** 48], 5 * 10 ** 48)):
            self.assertEqual(shared_by(numbers), shared)

    def test_a_lines_size_is_told_without_the_goal(self):
        self.assertEqual(Line([1, -9, 1000], False).size, 4)
        self.assertEqual(Line([1000], False).size, 0)


class Solutions(unittest.TestCase):
    def test_they_hold(self):
        dice = random.Random(5)
        for high in (1, 2, 3, 5, 9, 20):
            for size in (1, 9, 10 ** 40):
                square = table(dice, high, high, size, 0.8)
                right = [dice.randint(-size, size) for place in range(high)]
                told = solved(square, right, False)
                if told is None:
                    continue
                tops, bottom = told
                self.assertGreater(bottom, 0)
                for row, number in zip(square, right):
                    self.assertEqual(sum(one * top for one, top in zip(row, tops)), number * bottom)

    def test_rows_must_be_swapped(self):
        self.assertEqual(solved([[0, 1, 0], [0, 0, 2], [3, 0, 0]], [1, 1, 1], False), ([2, 6, 3], 6))
        self.assertEqual(inverse([[0, 0, 1], [1, 0, 0], [0, 1, 0]], 101), [[0, 1, 0], [0, 0, 1], [1, 0, 0]])

    def test_no_solution_is_told_where_rows_hang_together(self):
        for square in ([[0]], [[1, 2], [2, 4]], [[1, 1, 0], [0, 1, 1], [1, 2, 1]]):
            self.assertIsNone(solved(square, [1] * len(square), False))

    def test_another_modulus_is_taken_where_one_divides(self):
        square = [[FIRST_MODULUS, 0], [0, 3 * FIRST_MODULUS - 6]]
        self.assertIsNone(solved(square, [1, 1], False))
        tops, bottom = solved(square, [1, 1], True)
        self.assertEqual([square[at][at] * tops[at] for at in range(2)], [bottom, bottom])


if __name__ == "__main__":
    unittest.main()
