"""Point [19]: weighings, and how rows rise and fall by them."""

import random
import unittest

from downweigh.errors import NoRow
from downweigh.numbers import minus
from downweigh.walks import Walk
from downweigh.weighings import fall, rise, weighs
from downweigh.wishes import worth
from tests.things import (
    LOOP, Sour, all_own, both_ways, kept_as_is, odd_things, refused, some_line, some_numbers, some_program, spoil,
    takes_programs_alone)

LONG = 10 ** 40
TWO = (["x", "y"], ["a", "b"], [(0, 0, []), (0, 1, []), (1, 0, []), (1, 1, [])])
WEIGHING = [[3, 1, -2], [10, 5, 7]]


class Lines(unittest.TestCase):
    def test_within_a_place_and_from_place_to_place(self):
        for row, line in ((0, [0, -1, 2, 1, -2]), (1, [7, -1, 2, 5, 7]), (2, [-7, -5, -7, 1, -2]), (3, [0, -5, -7, 5, 7])):
            self.assertEqual(both_ways(self, rise, program=TWO, weighing=WEIGHING, row=row), line)
            self.assertEqual(both_ways(self, fall, program=TWO, weighing=WEIGHING, row=row), [-number for number in line])

    def test_one_number_and_three(self):
        self.assertEqual(rise(LOOP, [[4, -3]], 0), [0, 3, -3])
        self.assertEqual(fall(LOOP, [[4, -3]], 0), [0, -3, 3])
        three = (["x", "y", "z"], ["a", "b"], [(1, 0, [])])
        weighing = [[1, 2, 3, LONG], [5, 6, -LONG, 8]]
        self.assertEqual(rise(three, weighing, 0), [-4, -6, LONG, -8, 2, 3, LONG])
        self.assertEqual(fall(three, weighing, 0), [4, 6, -LONG, 8, -2, -3, -LONG])

    def test_by_steps(self):
        dice = random.Random(19)
        steps = 0
        for turn in range(150):
            program = some_program(dice, most_wishes=2, size=1)
            weighing = [some_line(dice, len(program[0]), 5) for place in program[1]]
            walk = Walk(program, dice.randrange(len(program[1])), some_numbers(dice, len(program[0])))
            ahead = (weighs(weighing, walk.here(), walk.numbers()), walk.numbers())
            for row in walk.leading()[:1]:
                walk.step(row)
                behind = weighs(weighing, walk.here(), walk.numbers())
                both = ahead[1] + walk.numbers()
                self.assertEqual(worth(rise(program, weighing, row), both), minus(behind, ahead[0]))
                self.assertEqual(worth(fall(program, weighing, row), both), minus(ahead[0], behind))
                steps += 1
        self.assertGreater(steps, 50)

    def test_what_is_no_row(self):
        for call in (rise, fall):
            for row in [*odd_things(), -1, 4, LONG, [0]]:
                self.assertIs(refused(self, NoRow, call, TWO, WEIGHING, row).row, row)
            self.assertEqual(refused(self, NoRow, call, (["x"], ["a"], []), [[0, 0]], 0).row, 0)

    def test_what_is_no_program_goes_first(self):
        for call in (rise, fall):
            takes_programs_alone(self, lambda thing: call(thing, WEIGHING, 0))
            takes_programs_alone(self, lambda thing: call(thing, None, Sour()))

    def test_the_askers_own(self):
        line = [3, 1, -2]
        weighing = [line, line]
        for call in (rise, fall):
            told = kept_as_is(self, call, TWO, weighing, 1)
            all_own(self, told, weighing)
            wanted = list(told)
            self.assertEqual(call(TWO, weighing, 1), wanted)
            spoil(told)
            self.assertEqual(call(TWO, weighing, 1), wanted)


class States(unittest.TestCase):
    def test_weighs(self):
        for place, numbers, told in ((0, [(0, 1), (0, 1)], (3, 1)), (0, [(1, 2), (1, 3)], (17, 6)), (1, [(-2, 1), (1, 7)], (1, 1)),
                                     (1, [(-1, 3), (-5, 3)], (-10, 3)), (0, [(LONG, 3), (0, 1)], (LONG + 9, 3))):
            self.assertEqual(both_ways(self, weighs, weighing=WEIGHING, place=place, numbers=numbers), told)
        self.assertEqual(kept_as_is(self, weighs, [[0, -4]], 0, [(3, 8)]), (-3, 2))


if __name__ == "__main__":
    unittest.main()
