"""Points [22], [23] and [3](c): mixtures, and the rows that they bar."""

import itertools
import random
import unittest
from fractions import Fraction

from downweigh.mixtures import barred, lets_mixture
from downweigh.ranks import left_by
from downweigh.weighings import fall
from tests.finder import mixture_of, never_of, put_together, rank_of, so_many_times
from tests.things import (
    LOOP, STAYS, Sour, all_own, bent, both_ways, kept_as_is, odd_things, some_program, spoil, takes_programs_alone)

LONG = 10 ** 40
NOUGHT, ONE, TWO, LESS = (0, 1), (1, 1), (2, 1), (-1, 1)
NO_DRIFT = ([NOUGHT], [NOUGHT])
# x stays, while it is from one on
STAND = (["x"], ["a"], [(0, 0, [("least", [-1, 1, 0]), STAYS])])
STAND_MIX = [(0, ONE, [TWO], [TWO], NO_DRIFT, ([ONE], [ONE]))]
# round by three places: x one more, x one less, x twice as much
ROUND = (["x"], ["a", "b", "c"], [(0, 1, [("just", [1, 1, -1])]), (1, 2, [("just", [-1, 1, -1])]), (2, 0, [("just", [0, 2, -1])])])
ROUND_MIX = [
    (0, ONE, [NOUGHT], [ONE], NO_DRIFT, ([NOUGHT], [ONE])), (1, ONE, [ONE], [NOUGHT], NO_DRIFT, ([ONE], [NOUGHT])),
    (2, ONE, [NOUGHT], [NOUGHT], NO_DRIFT, ([ONE], [TWO])),
]
# x one more, without a bound: what rises is made up for by a drift
UP = (["x"], ["a"], [(0, 0, [("just", [1, 1, -1]), ("least", [0, 1, 0])])])
UP_MIX = [(0, ONE, [NOUGHT], [ONE], ([ONE], [ONE]), ([NOUGHT], [ONE]))]


def changed(mixture, number, at, part):
    """The mixture with another part at one place of one tuple."""
    entry = mixture[number]
    return [*mixture[:number], (*entry[:at], part, *entry[at + 1:]), *mixture[number + 1:]]


def other_numbers(dice, mixture):
    """Mixtures in which one number is another one."""
    yield mixture
    for number, (row, many, ahead, behind, drift, goes) in enumerate(mixture):
        for at in range(len(ahead)):
            part = dice.choice((NOUGHT, ONE, LESS, (1, 2)))
            for which, (one, other) in ((4, drift), (5, goes)):
                yield changed(mixture, number, which, ([*one[:at], part, *one[at + 1:]], other))
                yield changed(mixture, number, which, (one, [*other[:at], part, *other[at + 1:]]))
            yield changed(mixture, number, 2, [*ahead[:at], part, *ahead[at + 1:]])
            yield changed(mixture, number, 3, [*behind[:at], part, *behind[at + 1:]])
        yield changed(mixture, number, 1, dice.choice((NOUGHT, ONE, LESS, TWO)))


def worth_by(wish, plain, numbers):
    """Whether a wish's line, by so much of its plain number, comes to what it wants."""
    told = wish[1][0] * plain + sum(factor * Fraction(*number) for factor, number in zip(wish[1][1:], numbers))
    return told == 0 if wish[0] == "just" else told >= 0


def is_mixture(program, mixture):
    """Whether a mixture that is of the right form is one, reckoned apart from the program."""
    outs = {}
    for row, many, ahead, behind, drift, goes in mixture:
        start, to, wishes = program[2][row]
        if Fraction(*many) < 0:
            return False
        for wish in wishes:
            if not worth_by(wish, 1, goes[0] + goes[1]) or not worth_by(wish, 0, drift[0] + drift[1]):
                return False
            if not worth_by(wish, Fraction(*many), ahead + behind):
                return False
        for place, sign, numbers in ((start, 1, ahead), (to, -1, behind), (start, 1, drift[0])):
            for at, number in enumerate(numbers):
                outs[place, at] = outs.get((place, at), 0) + sign * Fraction(*number)
        outs[start, "many"] = outs.get((start, "many"), 0) + Fraction(*many)
        outs[to, "many"] = outs.get((to, "many"), 0) - Fraction(*many)
    return not any(outs.values())


class Case(unittest.TestCase):
    def lets(self, program, rows, thing):
        told = lets_mixture(program, rows, thing)
        self.assertIs(type(told), bool)
        return told


class Mixtures(Case):
    def test_one_row(self):
        self.assertTrue(self.lets(STAND, [0], STAND_MIX))
        self.assertIs(both_ways(self, lets_mixture, program=STAND, rows=[0], thing=STAND_MIX), True)
        self.assertTrue(self.lets(UP, [0], UP_MIX))
        self.assertTrue(kept_as_is(self, lets_mixture, UP, [0], UP_MIX))

    def test_a_row_that_falls_is_not_barred(self):
        wishes = LOOP[2][0][2]
        self.assertEqual(wishes, [("least", [-1, 1, 0]), ("just", [1, -1, 1])])
        goes = ([ONE], [NOUGHT])
        for ahead, behind, drift in itertools.product([LESS, NOUGHT, ONE, TWO], repeat=3):
            for many in (ONE, TWO):
                entry = (0, many, [ahead], [behind], ([drift], [drift]), goes)
                self.assertFalse(self.lets(LOOP, [0], [entry]))
        # with many nought it bars nothing
        self.assertTrue(self.lets(LOOP, [0], [(0, NOUGHT, [NOUGHT], [NOUGHT], NO_DRIFT, goes)]))
        self.assertTrue(self.lets(LOOP, [0], [(0, NOUGHT, [TWO], [TWO], NO_DRIFT, goes)]))

    def test_three_places(self):
        self.assertTrue(self.lets(ROUND, [0, 1, 2], ROUND_MIX))
        for rows in ([0], [0, 1], [1, 2], [0, 2]):
            self.assertFalse(self.lets(ROUND, rows, [ROUND_MIX[row] for row in rows]))
        # with two rows alone nothing but nought goes out and comes in
        none = [(row, NOUGHT, [NOUGHT], [NOUGHT], NO_DRIFT, ROUND_MIX[row][5]) for row in (0, 2)]
        self.assertTrue(self.lets(ROUND, [0, 2], none))

    def test_many_goes_out_as_it_comes_in(self):
        for row in range(3):
            for many in (NOUGHT, TWO, (1, 2), (3, 2)):
                self.assertFalse(self.lets(ROUND, [0, 1, 2], changed(ROUND_MIX, row, 1, many)))
        free = (["x"], ["a", "b"], [(0, 1, []), (1, 0, []), (1, 0, [])])
        goes = ([NOUGHT], [NOUGHT])
        for manys, wanted in (((ONE, ONE, NOUGHT), True), ((ONE, NOUGHT, ONE), True), ((TWO, ONE, ONE), True), ((ONE, ONE, ONE), False),
                              ((ONE, (1, 2), (1, 2)), True), ((ONE, (1, 2), (1, 3)), False), ((NOUGHT, NOUGHT, NOUGHT), True),
                              ((NOUGHT, ONE, LESS), False), ((LESS, LESS, NOUGHT), False)):
            mix = [(row, many, [NOUGHT], [NOUGHT], NO_DRIFT, goes) for row, many in enumerate(manys)]
            self.assertIs(self.lets(free, [0, 1, 2], mix), wanted)

    def test_numbers_go_out_as_they_come_in(self):
        free = (["x", "y"], ["a", "b"], [(0, 1, []), (1, 0, [])])
        none = ([NOUGHT, NOUGHT], [NOUGHT, NOUGHT])
        one, other = [ONE, TWO], [(1, 2), LESS]

        def mix(first, second, drift=none, back=none):
            return [(0, ONE, *first, drift, none), (1, ONE, *second, back, none)]

        self.assertTrue(self.lets(free, [0, 1], mix((one, other), (other, one))))
        self.assertFalse(self.lets(free, [0, 1], mix((one, other), (one, other))))
        self.assertFalse(self.lets(free, [0, 1], mix((one, other), (other, one[::-1]))))
        self.assertFalse(self.lets(free, [0, 1], mix((one, other), (other[::-1], one))))
        # a drift's first list goes out, too; its second one does not come in
        nought = [NOUGHT, NOUGHT]
        for drift in ((one, nought), (one, other), (one, one)):
            self.assertTrue(self.lets(free, [0, 1], mix((nought, nought), (nought, one), drift)))
            self.assertFalse(self.lets(free, [0, 1], mix((nought, nought), (nought, nought), drift)))
            self.assertTrue(self.lets(free, [0, 1], mix((nought, one), (nought, nought), back=drift)))
        self.assertTrue(self.lets(free, [0, 1], mix((nought, nought), (nought, nought), (nought, one), (nought, other))))

    def test_ahead_and_behind_come_to_what_the_wishes_want(self):
        for ahead, behind, many, wanted in ((TWO, TWO, ONE, True), (ONE, ONE, ONE, True), ((1, 2), (1, 2), ONE, False),
                                            ((1, 2), (1, 2), (1, 2), True), (ONE, TWO, ONE, False), (TWO, ONE, ONE, False),
                                            (NOUGHT, NOUGHT, NOUGHT, True), (LESS, LESS, NOUGHT, False), (ONE, ONE, TWO, False)):
            self.assertIs(self.lets(STAND, [0], [(0, many, [ahead], [behind], NO_DRIFT, ([ONE], [ONE]))]), wanted)

    def test_drift_comes_to_what_the_wishes_want_by_factors_alone(self):
        for one, other, wanted in ((ONE, ONE, True), (ONE, TWO, False), (ONE, NOUGHT, False), (TWO, TWO, False)):
            self.assertIs(self.lets(UP, [0], changed(UP_MIX, 0, 4, ([one], [other]))), wanted)
        # that x goes up by two wants twice as much of a drift, but so many is one
        up_two = (["x"], ["a"], [(0, 0, [("just", [2, 1, -1]), ("least", [0, 1, 0])])])
        self.assertTrue(self.lets(up_two, [0], [(0, ONE, [NOUGHT], [TWO], ([TWO], [TWO]), ([NOUGHT], [TWO]))]))
        self.assertFalse(self.lets(up_two, [0], [(0, ONE, [NOUGHT], [TWO], ([ONE], [ONE]), ([NOUGHT], [TWO]))]))
        # where x is at most five, no drift goes up
        low = (["x"], ["a"], [(0, 0, [("just", [1, 1, -1]), ("least", [5, -1, 0])])])
        self.assertFalse(self.lets(low, [0], UP_MIX))

    def test_goes_grants_the_wishes(self):
        for one, other, wanted in ((ONE, ONE, True), (TWO, TWO, True), ((7, 2), (7, 2), True), (NOUGHT, NOUGHT, False), (ONE, TWO, False)):
            self.assertIs(self.lets(STAND, [0], changed(STAND_MIX, 0, 5, ([one], [other]))), wanted)
        # a row that never goes is in no mixture
        still = (["x"], ["a"], [(0, 0, [("just", [1, 0, 0])])])
        for goes in ([NOUGHT], [ONE], [LESS]):
            self.assertFalse(self.lets(still, [0], [(0, NOUGHT, [NOUGHT], [NOUGHT], NO_DRIFT, (goes, goes))]))

    def test_so_many_times_as_much(self):
        for program, mixture in ((STAND, STAND_MIX), (ROUND, ROUND_MIX), (UP, UP_MIX)):
            rows = list(range(len(program[2])))
            for by in (TWO, (1, 3), (LONG, 7), NOUGHT):
                told = so_many_times(mixture, by)
                self.assertTrue(self.lets(program, rows, told))
                self.assertEqual(barred(told), [] if by == NOUGHT else rows)
            self.assertFalse(self.lets(program, rows, so_many_times(mixture, LESS)))
            self.assertTrue(self.lets(program, rows, put_together(mixture, so_many_times(mixture, (2, 3)))))

    def test_rows(self):
        double = (["x"], ["a"], STAND[2] * 3)
        entry = STAND_MIX[0]
        mix = [(row, *entry[1:]) for row in range(3)]
        self.assertTrue(self.lets(double, [0, 1, 2], mix))
        self.assertTrue(self.lets(double, [1], mix[1:2]))
        self.assertTrue(self.lets(double, [0, 2], [mix[0], mix[2]]))
        for rows, thing in (
            ([], []), ([2, 0], [mix[2], mix[0]]), ([1, 1], [mix[1], mix[1]]), ([3], [(3, *entry[1:])]), ([-1], [(-1, *entry[1:])]),
            ([True], [mix[1]]), ([True], [(True, *entry[1:])]), ((0, 1), mix[:2]), ([0, 1], mix), ([0, 1, 2], mix[:2]),
            ([0, 1], mix[1:]), ([0, 1], mix[:2][::-1]), ([0], [mix[1]]), ([1], [(True, *entry[1:])]), ([1], [(1.0, *entry[1:])]),
            ([0], mix[0]), ([0], (mix[0],)), ([0], [list(mix[0])]), ([0.0], mix[:1]), (["0"], mix[:1]), (0, mix[:1]),
            ({0: 1}, mix[:1]), (range(1), mix[:1]), ([0, 1, 2, 3], mix), (None, mix), ([], None), ([0], []), (Sour(), mix),
        ):
            self.assertFalse(self.lets(double, rows, thing))

    def test_no_rows(self):
        program = (["x"], ["a"], [])
        for rows, thing in (([], []), ([0], STAND_MIX), (None, None)):
            self.assertFalse(self.lets(program, rows, thing))

    def test_bent(self):
        for program, mixture in ((STAND, STAND_MIX), (ROUND, ROUND_MIX), (UP, UP_MIX)):
            rows = list(range(len(program[2])))
            wrong = 0
            for thing in bent(mixture):
                if self.lets(program, rows, thing):
                    self.assertTrue(is_mixture(program, thing))
                else:
                    wrong += 1
            self.assertGreater(wrong, 100)

    def test_each_number_another_one(self):
        dice = random.Random(22)
        told = {True: 0, False: 0}
        for turn in range(150):
            program = some_program(dice, most_rows=3, most_wishes=2, size=1)
            left = left_by(program, never_of(program), [])
            for row in left:
                mixture = mixture_of(program, left, row)
                for thing in [] if mixture is None else other_numbers(dice, mixture):
                    wanted = is_mixture(program, thing)
                    self.assertIs(self.lets(program, left, thing), wanted)
                    told[wanted] += 1
        self.assertGreater(min(told.values()), 100)

    def test_each_part_of_another_kind(self):
        goods = {1: (2, 4), 2: [], 3: [ONE, ONE], 4: (NO_DRIFT[0],), 5: ([ONE], [ONE], [ONE])}
        for at, part in goods.items():
            self.assertFalse(self.lets(STAND, [0], changed(STAND_MIX, 0, at, part)))
        entry = STAND_MIX[0]
        for part in ((TWO,), [2], [(4, 2)], TWO, [[2, 1]], [None], None, (), []):
            self.assertFalse(self.lets(STAND, [0], changed(STAND_MIX, 0, 2, part)))
            self.assertFalse(self.lets(STAND, [0], changed(STAND_MIX, 0, 3, part)))
            for at in (4, 5):
                self.assertFalse(self.lets(STAND, [0], changed(STAND_MIX, 0, at, (entry[at][0], part))))
                self.assertFalse(self.lets(STAND, [0], changed(STAND_MIX, 0, at, (part, entry[at][1]))))
                self.assertFalse(self.lets(STAND, [0], changed(STAND_MIX, 0, at, list(entry[at]))))
        self.assertFalse(self.lets(STAND, [0], [entry[:5]]))
        self.assertFalse(self.lets(STAND, [0], [(*entry, [])]))

    def test_of_anything(self):
        for thing in odd_things():
            self.assertFalse(self.lets(STAND, thing, STAND_MIX))
            self.assertFalse(self.lets(STAND, [thing], STAND_MIX))
            self.assertFalse(self.lets(STAND, [0], thing))
            self.assertFalse(self.lets(STAND, [0], [thing]))
            self.assertFalse(self.lets(STAND, thing, thing))
            for at in range(6):
                self.assertFalse(self.lets(STAND, [0], changed(STAND_MIX, 0, at, thing)))
                self.assertFalse(self.lets(STAND, [0], changed(STAND_MIX, 0, at, [thing])))
                self.assertFalse(self.lets(STAND, [0], changed(STAND_MIX, 0, at, ([thing], [thing]))))
            self.assertFalse(self.lets(ROUND, [0, 1, 2], [*ROUND_MIX[:2], thing]))

    def test_what_is_no_program_goes_first(self):
        takes_programs_alone(self, lambda thing: lets_mixture(thing, [0], STAND_MIX))
        takes_programs_alone(self, lambda thing: lets_mixture(thing, Sour(), Sour()))


class Barred(Case):
    def test_barred(self):
        self.assertEqual(both_ways(self, barred, mixture=STAND_MIX), [0])
        self.assertEqual(barred(ROUND_MIX), [0, 1, 2])
        free = [(row, many, [NOUGHT], [NOUGHT], NO_DRIFT, NO_DRIFT) for row, many in ((1, ONE), (4, NOUGHT), (7, (1, LONG)))]
        self.assertEqual(barred(free), [1, 7])
        self.assertEqual(barred(free[1:2]), [])

    def test_the_askers_own(self):
        told = kept_as_is(self, barred, ROUND_MIX)
        all_own(self, told, ROUND_MIX)
        spoil(told)
        self.assertEqual(barred(ROUND_MIX), [0, 1, 2])


class Both(Case):
    """Of each row left just one is there: a rank in which it falls, or a mixture that bars it."""

    def test_just_one_of_two(self):
        dice = random.Random(23)
        told = {True: 0, False: 0}
        for turn in range(250):
            program = some_program(dice, most_rows=4, most_wishes=4, size=dice.choice((1, 2)))
            never = never_of(program)
            left = left_by(program, never, [])
            for row in left:
                rank = rank_of(program, left, [row])
                mixture = mixture_of(program, left, row)
                self.assertEqual(rank is None, mixture is not None)
                told[rank is None] += 1
                if rank is not None:
                    self.assertEqual(left_by(program, never, [rank]), [other for other in left if other != row])
                else:
                    self.assertTrue(self.lets(program, left, mixture))
                    self.assertIn(row, barred(mixture))
            self.bars_all(program, never, left)
        self.assertGreater(min(told.values()), 50)

    def bars_all(self, program, never, left):
        """Where a mixture bars all rows left, no rank makes one of them fall."""
        mixtures = [mixture_of(program, left, row) for row in left]
        if not left or None in mixtures:
            return
        whole = mixtures[0]
        for mixture in mixtures[1:]:
            whole = put_together(whole, mixture)
        self.assertTrue(self.lets(program, left, whole))
        self.assertEqual(barred(whole), left)
        for size in range(1, len(left) + 1):
            for falling in itertools.combinations(left, size):
                self.assertIsNone(rank_of(program, left, list(falling)))

    def test_by_a_mixture_no_weighing_falls(self):
        # all falls of ahead and behind, and what the drifts weigh by factors alone, come to nought together
        dice = random.Random(24)
        for program, mixture in ((STAND, STAND_MIX), (ROUND, ROUND_MIX), (UP, UP_MIX)):
            for turn in range(30):
                weighing = [[dice.randint(-5, 5), dice.randint(-5, 5)] for place in program[1]]
                total = 0
                for row, many, ahead, behind, drift, goes in mixture:
                    for factor, number in zip(fall(program, weighing, row), [many, *ahead, *behind]):
                        total += factor * Fraction(*number)
                    total += weighing[program[2][row][0]][1] * Fraction(*drift[0][0])
                self.assertEqual(total, 0)

    def test_no_ranks_of_rows_that_are_all_barred(self):
        for program in (STAND, ROUND, UP):
            rows = list(range(len(program[2])))
            for row in rows:
                self.assertIsNone(rank_of(program, rows, [row]))


if __name__ == "__main__":
    unittest.main()
