"""Points [26] and [3](e): the most steps of a run, by one rank."""

import random
import unittest

from downweigh import errors
from downweigh.bounds import most_steps
from downweigh.numbers import fraction
from downweigh.settling import settled
from downweigh.walks import Walk
from tests.examples import SETTLED
from tests.things import (
    LOOP, Sour, both_ways, kept_as_is, odd_things, refused, some_numbers, some_program, takes_programs_alone)

NOUGHT, ONE, LESS = (0, 1), (1, 1), (-1, 1)
# x, by which the one row of LOOP falls from one to nought
RANK = ([[0, 1]], [(0, True, [NOUGHT, LESS], [ONE, NOUGHT])])


def lowered(by):
    """The rank with a weighing that is less by a whole number: let by where that is not above one."""
    return ([[-by, 1]], RANK[1])


def by_settled(program, place, numbers):
    word, never, ranks, mixtures = settled(program)
    return most_steps(program, never, ranks, place=place, numbers=numbers)


class Bounds(unittest.TestCase):
    def test_no_ranks(self):
        for program in ((["x"], ["a"], []), (["x"], ["a", "b"], [(0, 0, [("least", [-1, 0, 0])])])):
            word, never, ranks, mixtures = settled(program)
            self.assertEqual(ranks, [])
            for x in (LESS, NOUGHT, (7, 2), (10 ** 40, 1)):
                for place in range(len(program[1])):
                    told = most_steps(program, never, [], place=place, numbers=[x])
                    self.assertEqual((told, type(told)), (0, int))

    def test_one_rank(self):
        for x, wanted in (((-5, 1), 0), (LESS, 0), ((-1, 2), 0), ((-1, 10 ** 30), 0), (NOUGHT, 1), ((1, 2), 1), ((99, 100), 1), (ONE, 2),
                          ((3, 2), 2), ((7, 1), 8), ((79, 10), 8), ((10 ** 30, 1), 10 ** 30 + 1), ((10 ** 30, 7), 10 ** 30 // 7 + 1)):
            told = most_steps(LOOP, [], [RANK], place=0, numbers=[x])
            self.assertEqual((told, type(told)), (wanted, int))
        self.assertEqual(most_steps(LOOP, [], [lowered(1)], numbers=[(7, 1)]), 7)
        self.assertEqual(most_steps(LOOP, [], [lowered(-5)], numbers=[(-5, 1)]), 1)
        self.assertEqual(most_steps(LOOP, [], [lowered(-5)], numbers=[(-11, 2)]), 0)

    def test_a_rank_without_entries(self):
        # ranks of no rows are let by, too
        self.assertEqual(most_steps((["x"], ["a"], []), [], [([[3, 1]], [])], numbers=[ONE]), 5)
        self.assertEqual(most_steps((["x"], ["a"], []), [], [([[3, 1]], [])], numbers=[(-4, 1)]), 0)

    def test_more_ranks(self):
        for name in ("two ranks", "two ranks the other way", "never in between"):
            program = SETTLED[name][0]
            word, never, ranks, mixtures = settled(program)
            numbers = [NOUGHT] * len(program[0])
            self.assertIsNone(most_steps(program, never, ranks, place=0, numbers=numbers))
        self.assertIsNone(most_steps(LOOP, [], [RANK, ([[0, 0]], [])], numbers=[LESS]))
        program = SETTLED["three ranks"][0]
        word, never, ranks, mixtures = settled(program)
        self.assertIsNone(most_steps(program, never, ranks, numbers=[LESS] * 3))

    def test_place(self):
        program = SETTLED["by three places"][0]
        word, never, ranks, mixtures = settled(program)
        tens = [most_steps(program, never, ranks, place=place, numbers=[(10, 1)]) for place in range(3)]
        self.assertEqual(most_steps(program, never, ranks, numbers=[(10, 1)]), tens[0])
        weighing = ranks[0][0]
        self.assertEqual(tens, [max(0, 1 + line[0] + 10 * line[1]) for line in weighing])

    def test_by_name(self):
        wanted = most_steps(LOOP, [], [RANK], place=0, numbers=[ONE])
        self.assertEqual(most_steps(program=LOOP, never=[], ranks=[RANK], place=0, numbers=[ONE]), wanted)
        self.assertEqual(both_ways(self, lambda program, never, ranks: most_steps(program, never, ranks, numbers=[ONE]),
                                   program=LOOP, never=[], ranks=[RANK]), wanted)
        for arguments in ((LOOP, [], [RANK], 0), (LOOP, [], [RANK], 0, [ONE])):
            with self.assertRaises(TypeError):
                most_steps(*arguments, **({} if len(arguments) == 5 else {"numbers": [ONE]}))
        with self.assertRaises(TypeError):
            most_steps(LOOP, [], [RANK], place=0)

    def test_what_is_handed_in(self):
        self.assertEqual(kept_as_is(self, most_steps, LOOP, [], [RANK], place=0, numbers=[ONE]), 2)

    def test_refusals(self):
        takes_programs_alone(self, lambda thing: most_steps(thing, [], [RANK], numbers=[ONE]))
        takes_programs_alone(self, lambda thing: most_steps(thing, Sour(), Sour(), place=Sour(), numbers=Sour()))
        for thing in odd_things():
            refused(self, errors.NoRanks, most_steps, LOOP, thing, [RANK], numbers=[ONE])
            refused(self, errors.NoRanks, most_steps, LOOP, [], thing, numbers=[ONE])
            refused(self, errors.NoRanks, most_steps, LOOP, [], [thing], numbers=[ONE])
            refused(self, errors.NoRanks, most_steps, LOOP, [], [RANK, thing], numbers=[ONE])
            refused(self, errors.NoNumbers, most_steps, LOOP, [], [RANK], numbers=thing)
            refused(self, errors.NoNumbers, most_steps, LOOP, [], [RANK], numbers=[thing])
            self.assertIs(refused(self, errors.NoPlace, most_steps, LOOP, [], [RANK], place=thing, numbers=[ONE]).place, thing)
        for place in (1, -1, 10 ** 30):
            self.assertEqual(refused(self, errors.NoPlace, most_steps, LOOP, [], [RANK], place=place, numbers=[ONE]).place, place)
        for numbers in ([], [ONE, ONE], (ONE,), [1], [(2, 2)]):
            refused(self, errors.NoNumbers, most_steps, LOOP, [], [RANK], numbers=numbers)

    def test_ranks_that_leave_a_row(self):
        for ranks in ([], [([[0, 0]], [(0, False, [NOUGHT, NOUGHT], [NOUGHT, NOUGHT])])], [lowered(2)], [RANK, RANK], (RANK,), RANK):
            refused(self, errors.NoRanks, most_steps, LOOP, [], ranks, numbers=[ONE])
        refused(self, errors.NoRanks, most_steps, LOOP, [(0, [NOUGHT, NOUGHT])], [], numbers=[ONE])

    def test_the_order_of_refusals(self):
        refused(self, errors.NoRanks, most_steps, LOOP, [], [], place=Sour(), numbers=Sour())
        refused(self, errors.NoPlace, most_steps, LOOP, [], [RANK], place=Sour(), numbers=Sour())
        refused(self, errors.NoPlace, most_steps, LOOP, [], [RANK], place=1, numbers=[])
        refused(self, errors.NoNumbers, most_steps, LOOP, [], [RANK], place=0, numbers=Sour())
        # where there are more ranks than one, too, and where there are none
        two = [RANK, ([[0, 0]], [])]
        refused(self, errors.NoPlace, most_steps, LOOP, [], two, place=1, numbers=[ONE])
        refused(self, errors.NoNumbers, most_steps, LOOP, [], two, numbers=[])
        refused(self, errors.NoPlace, most_steps, (["x"], ["a"], []), [], [], place=1, numbers=[ONE])
        refused(self, errors.NoNumbers, most_steps, (["x"], ["a"], []), [], [], numbers=[])


class Walks(unittest.TestCase):
    def longest(self, program, place, numbers, dice):
        """The longest of some walks."""
        most = 0
        for turn in range(3):
            walk = Walk(program, place, numbers)
            while walk.leading() and len(walk) < 300:
                walk.step(dice.choice(walk.leading()))
            self.assertEqual(walk.leading(), [])
            most = max(most, len(walk))
        return most

    def test_no_walk_goes_farther(self):
        dice = random.Random(26)
        programs = [one for one, sets in SETTLED.values()] + [some_program(dice, most_rows=5, most_wishes=6, size=2) for turn in range(150)]
        gone = far = 0
        for program in programs:
            word, never, ranks, mixtures = settled(program)
            if word == "left" or len(ranks) > 1:
                continue
            for turn in range(8):
                place, numbers = dice.randrange(len(program[1])), some_numbers(dice, len(program[0]), 8)
                most = most_steps(program, never, ranks, place=place, numbers=numbers)
                steps = self.longest(program, place, numbers, dice)
                self.assertLessEqual(steps, most)
                gone += steps
                far += steps > 3
        self.assertGreater(gone, 100)
        self.assertGreater(far, 15)

    def test_bounds_by_settled(self):
        # not promised, but so they are: as few steps as there are
        for x in range(-2, 9):
            self.assertEqual(by_settled(LOOP, 0, [fraction(x)]), max(0, x))
        self.assertEqual(by_settled(SETTLED["one step"][0], 0, [ONE]), 1)
        self.assertEqual(by_settled(SETTLED["one step"][0], 1, [ONE]), 0)


if __name__ == "__main__":
    unittest.main()
