"""Point [8]: shares of columns that come to a goal, or numbers against it."""

import itertools
import random
import unittest
from fractions import Fraction

from downweigh.balance import balance, lets_balance
from downweigh.lifting import FIRST_MODULUS
from tests.things import both_ways, kept_as_is, odd_things

LONG = 10 ** 40 - 1


def is_right(columns, goal, told):
    """Whether what is told adds up, by Python's own fractions."""
    word, parts = told
    if word == "shares":
        shares = [Fraction(top, bottom) for top, bottom in parts]
        if len(shares) != len(columns) or min([0, *shares]) < 0:
            return False
        taken = [(share, column) for share, column in zip(shares, columns) if share]
        return all(sum(share * column[at] for share, column in taken) == number for at, number in enumerate(goal))
    if word != "against" or len(parts) != len(goal):
        return False
    if not all(sum(a * b for a, b in zip(column, parts)) >= 0 for column in columns):
        return False
    return sum(a * b for a, b in zip(goal, parts)) < 0


def mixed(columns, shares):
    """The goal that columns come to by shares."""
    return [sum(share * column[at] for share, column in zip(shares, columns)) for at in range(len(columns[0]))]


class Case(unittest.TestCase):
    def look(self, columns, goal, word=None):
        told = balance(columns, goal)
        self.assertIs(type(told), tuple)
        self.assertIs(type(told[1]), list)
        self.assertTrue(is_right(columns, goal, told), told[0])
        self.assertIs(lets_balance(columns, goal, told), True)
        if word is not None:
            self.assertEqual(told[0], word)
        return told


class Told(Case):
    def test_small_ones(self):
        for columns, goal, word in (
            ([[1, 0], [0, 1]], [3, 4], "shares"), ([[1, 0], [0, 1]], [3, -4], "against"),
            ([[2, 1], [1, 3]], [1, 1], "shares"), ([[2, 1], [1, 3]], [5, 1], "against"),
            ([[1, 1], [1, -1]], [2, 0], "shares"), ([[1], [-1]], [-7], "shares"), ([[3], [5]], [-7], "against"),
            ([[3], [5]], [7], "shares"), ([[-3]], [7], "against"), ([[-3]], [-7], "shares"),
            ([[1, 2], [2, 4]], [1, 3], "against"), ([[1, 2], [2, 4]], [3, 6], "shares"),
        ):
            self.look(columns, goal, word)
            both_ways(self, balance, columns=columns, goal=goal)

    def test_the_only_shares(self):
        self.assertEqual(balance([[2, 1], [1, 3]], [1, 1]), ("shares", [(2, 5), (1, 5)]))
        self.assertEqual(balance([[3]], [-0]), ("shares", [(0, 1)]))
        self.assertEqual(balance([[3]], [2]), ("shares", [(2, 3)]))

    def test_no_columns(self):
        self.assertEqual(balance([], [0]), ("shares", []))
        self.assertEqual(balance([], [0, 0, 0]), ("shares", []))
        for goal in ([5], [-5], [0, 0, 1], [0, -1, 0], [LONG] * 4):
            self.look([], goal, "against")

    def test_noughts(self):
        self.look([[0, 0]], [0, 0], "shares")
        self.look([[0, 0]] * 5, [0, 1], "against")
        self.look([[0]] * 400, [0], "shares")
        self.look([[0] * 200] * 400, [0] * 200, "shares")
        self.look([[0] * 200] * 400, [0] * 199 + [-1], "against")
        self.look([[1, 0], [0, 0]], [0, 0], "shares")

    def test_one_place(self):
        for numbers in itertools.product((-2, 0, 3), repeat=3):
            for goal in (-LONG, -1, 0, 1, LONG):
                signs = [number * goal > 0 for number in numbers]
                self.look([[number] for number in numbers], [goal], "shares" if goal == 0 or any(signs) else "against")

    def test_alike_columns(self):
        column = [1, -2, 3]
        self.look([column] * 50, [2, -4, 6], "shares")
        self.look([column] * 50, [2, -4, 7], "against")
        self.look([column] * 50 + [[-1, 2, -3]] * 50, [-5, 10, -15], "shares")

    def test_every_table_of_two_places_and_two_columns(self):
        for numbers in itertools.product((-1, 0, 2), repeat=6):
            self.look([list(numbers[:2]), list(numbers[2:4])], list(numbers[4:]))

    def test_many_tables(self):
        dice = random.Random(8)
        words = {}
        for turn in range(3000):
            wide, high = dice.randint(0, 12), dice.randint(1, 7)
            size, full = dice.choice((1, 1, 2, 9, 10 ** 6, LONG)), dice.random()
            columns = [
                [dice.randint(-size, size) if dice.random() < full else 0 for place in range(high)]
                for column in range(wide)
            ]
            goal = [dice.randint(-size, size) for place in range(high)]
            if columns and turn % 3:
                goal = mixed(columns, [dice.randint(-1, 3) for column in columns])
            if turn % 7 == 0:
                goal = [0] * (high - 1) + [-1]
            word = self.look(columns, goal)[0]
            words[word] = words.get(word, 0) + 1
        self.assertGreater(min(words["shares"], words["against"]), 500)


class Hard(Case):
    def test_steps_that_could_go_round(self):
        # Beale's and Kuhn's tables, on which plain rules go round: a cost row with what can just be reached, and more
        beale = [
            [4, 0, 0, 0], [0, 2, 0, 0], [0, 0, 1, 0], [1, 1, 0, 3], [-32, -24, 0, -80], [-4, -1, 1, 2], [36, 6, 0, -24],
            [0, 0, 0, -1],
        ]
        self.look(beale, [0, 0, 1, 5], "shares")
        self.look(beale, [0, 0, 1, 6], "against")
        kuhn = [
            [-6, 1, 2, 2], [-27, -1, -9, 3], [3, -1, 3, -1], [36, 6, 1, -12], [3, 0, 0, 0], [0, 3, 0, 0], [0, 0, 1, 0],
            [0, 0, 0, -1],
        ]
        for goal in ([0, 0, 2, 0], [0, 0, 2, 2], [0, 0, 2, 5], [0, 0, 2, -1], [0, 0, 0, 1]):
            self.look(kuhn, goal)

    def test_all_costs_alike(self):
        # ways from places to places: nearly every step is one of many that are alike
        size = 7
        columns = []
        for start, to in itertools.product(range(size), repeat=2):
            columns.append([1 if at in (start, size + to) else 0 for at in range(2 * size)])
        self.look(columns, [1] * (2 * size), "shares")
        self.look(columns, [1] * (2 * size - 1) + [2], "against")
        self.look(columns, [0] * (2 * size), "shares")

    def test_corners_of_a_bent_cube(self):
        # Klee's and Minty's cube, which some rules go through corner by corner
        size = 12
        columns = [[0] * at + [1] + [2 ** (place - at + 1) for place in range(at + 1, size)] for at in range(size)]
        columns = [column + [2 ** (size - 1 - at)] for at, column in enumerate(columns)]
        columns += [[1 if place == at else 0 for place in range(size + 1)] for at in range(size)]
        columns += [[0] * size + [-1]]
        goal = [5 ** (at + 1) for at in range(size)]
        self.look(columns, goal + [5 ** size], "shares")
        self.look(columns, goal + [5 ** size + 1], "against")

    def test_numbers_of_forty_figures(self):
        dice = random.Random(4)
        for wide, high in ((1, 1), (6, 3), (12, 6), (30, 12), (60, 30)):
            columns = [[dice.randint(-LONG, LONG) for place in range(high)] for column in range(wide)]
            goal = mixed(columns, [at % 3 for at in range(wide)])
            self.look(columns, goal, "shares")
            self.look(columns, [dice.randint(-LONG, LONG) for place in range(high)])
            lifted = [[abs(column[0]), *column[1:]] for column in columns]
            self.look(lifted, [-1, *goal[1:]], "against")

    def test_columns_of_very_unlike_sizes(self):
        dice = random.Random(9)
        columns = []
        for turn in range(30):
            size = 10 ** dice.randint(0, 40)
            columns.append([dice.randint(-size, size) for place in range(12)])
        self.look(columns, mixed(columns, [at % 2 for at in range(30)]), "shares")
        self.look(columns, [0] * 11 + [-1])

    def test_shares_that_get_smaller_and_smaller(self):
        # no rounded numbers tell these from nought
        size = 40
        columns = [[LONG if place == at else -1 if place == at + 1 else 0 for place in range(size)] for at in range(size)]
        told = self.look(columns, [1] + [0] * (size - 1), "shares")
        self.assertEqual(told[1][-1], (1, LONG ** size))
        self.look(columns, [-1] + [0] * (size - 1), "against")
        self.look(columns + [[0] * (size - 1) + [-1]], [1] + [0] * (size - 1), "shares")

    def test_a_modulus_that_divides(self):
        # what the shares are reckoned by leaves nought of these
        for number in (FIRST_MODULUS, FIRST_MODULUS * (FIRST_MODULUS - 2), FIRST_MODULUS * 15):
            self.assertEqual(balance([[number]], [1]), ("shares", [(1, number)]))
            self.look([[number, 1], [number, -1]], [number, 0], "shares")
            self.look([[number, 1], [1, number]], [-1, 1], "against")

    def test_far_more_columns_than_places_and_far_fewer(self):
        dice = random.Random(3)
        wide = [[dice.randint(-9, 9) for place in range(8)] for column in range(400)]
        self.look(wide, [dice.randint(-9, 9) for place in range(8)], "shares")
        self.look([[abs(column[0]) + 1, *column[1:]] for column in wide], [0] * 7 + [1], "against")
        high = [[dice.randint(-9, 9) for place in range(200)] for column in range(8)]
        self.look(high, mixed(high, [1, 0, 2, 0, 3, 0, 4, 0]), "shares")
        self.look(high, mixed(high, [1, 0, 2, 0, 3, 0, 4, -1]), "against")


class Largest(Case):
    def table(self, seed, full, size):
        dice = random.Random(seed)
        return [
            [dice.randint(-size, size) if dice.random() < full else 0 for place in range(200)] for column in range(400)
        ]

    def test_mostly_noughts(self):
        columns = self.table(1, 0.02, 2)
        self.look(columns, mixed(columns, [at % 3 for at in range(400)]), "shares")
        self.look(columns, [0] * 199 + [-1])

    def test_no_noughts(self):
        columns = self.table(2, 1, 9)
        self.look(columns, mixed(columns, [at % 3 for at in range(400)]), "shares")

    def test_many_that_hang_together(self):
        columns = [[(at * place) % 7 - 3 for place in range(200)] for at in range(400)]
        self.look(columns, mixed(columns, [at % 2 for at in range(400)]), "shares")
        self.look(columns, [(place * place) % 11 - 5 for place in range(200)], "against")


class Looking(unittest.TestCase):
    COLUMNS = [[2, 1], [1, 3], [0, 0]]
    SHARES = ("shares", [(2, 5), (1, 5), (7, 2)])
    AGAINST = ("against", [-1, 3])

    def test_right_ones(self):
        self.assertIs(both_ways(self, lets_balance, columns=self.COLUMNS, goal=[1, 1], thing=self.SHARES), True)
        self.assertIs(both_ways(self, lets_balance, columns=[[0, 1], [-1, 0]], goal=[5, 1], thing=self.AGAINST), True)
        self.assertIs(lets_balance([[2, 1]], [-4, 0], ("against", [3, -6])), True)
        self.assertIs(lets_balance([], [0], ("shares", [])), True)
        self.assertIs(lets_balance([], [-3], ("against", [1])), True)

    def test_bent_shares(self):
        word, shares = self.SHARES
        for at in range(2):
            for share in ((0, 1), (1, 1), (-2, 5), (41, 100)):
                bent = [share if other == at else kept for other, kept in enumerate(shares)]
                self.assertIs(lets_balance(self.COLUMNS, [1, 1], (word, bent)), False)
        self.assertIs(lets_balance(self.COLUMNS, [1, 1], (word, [(2, 5), (1, 5), (-1, 1)])), False)
        self.assertIs(lets_balance([[1], [-1]], [1], (word, [(0, 1), (-1, 1)])), False)
        self.assertIs(lets_balance(self.COLUMNS, [1, 2], self.SHARES), False)
        self.assertIs(lets_balance(self.COLUMNS, [2, 1], self.SHARES), False)

    def test_bent_numbers_against(self):
        columns, goal = [[0, 1], [1, 1], [-1, 1]], [5, 1]
        self.assertIs(lets_balance(columns, goal, ("against", [-1, 1])), True)
        for numbers in ([-1, 5], [-1, 6], [0, 0], [1, 1], [-2, 1], [1, -1], [-1, 0]):
            self.assertIs(lets_balance(columns, goal, ("against", numbers)), False)
        self.assertIs(lets_balance([[2, -1], [1, 3]], [5, 1], ("against", [-1, 3])), False)

    def test_right_numbers_in_a_wrong_form(self):
        shares, against = self.SHARES[1], [-1, 1]
        for thing in (shares, list(self.SHARES), ("shares", tuple(shares)), ("shares", shares, []), ("share", shares),
                      ("against", shares), ("shares", shares[:2]), ("shares", [*shares, (0, 1)]), (b"shares", shares),
                      ("shares", [(4, 10), (1, 5), (7, 2)]), ("shares", [(2, 5), (1, 5), 3]), ("Shares", shares),
                      ("shares", [(2, 5), (1, 5), (0, 2)]), ("shares", [[2, 5], (1, 5), (7, 2)])):
            self.assertIs(lets_balance(self.COLUMNS, [1, 1], thing), False)
        columns, goal = [[0, 1]], [5, 1]
        self.assertIs(lets_balance(columns, goal, ("against", against)), True)
        for thing in (against, ["against", against], ("against", (-1, 1)), ("shares", against), ("against", [-1]),
                      ("against", [-1, 1, 0]), ("against", [-1, True]), ("against", [(-1, 1), (1, 1)]),
                      ("against", [-1, 1.0]), ("against", against, against), ("", against), (None, against)):
            self.assertIs(lets_balance(columns, goal, thing), False)

    def test_of_anything(self):
        for columns, goal in (([], [0]), ([], [1]), ([[1]], [1]), ([[1]], [-1]), (self.COLUMNS, [1, 1])):
            for thing in odd_things():
                self.assertIs(lets_balance(columns, goal, thing), False)
                for word in ("shares", "against"):
                    self.assertIs(lets_balance(columns, goal, (word, thing)), False)
                    self.assertIs(lets_balance(columns, goal, (word, [thing] * (1 + len(columns)))), False)
                    self.assertIs(lets_balance(columns, goal, (word, [thing for place in goal])), False)
                    if columns:
                        self.assertIs(lets_balance(columns, goal, (word, [thing for column in columns])), False)

    def test_what_is_handed_in_stays_and_what_is_told_is_the_askers_own(self):
        for columns, goal in (([[2, 1], [1, 3]], [1, 1]), ([[2, 1], [1, 3]], [5, 1])):
            told = kept_as_is(self, balance, columns, goal)
            self.assertIs(kept_as_is(self, lets_balance, columns, goal, told), True)
            told[1].append("mine")
            told[1][0] = None
            again = balance(columns, goal)
            self.assertIs(lets_balance(columns, goal, again), True)
            self.assertIsNot(again[1], balance(columns, goal)[1])


if __name__ == "__main__":
    unittest.main()
