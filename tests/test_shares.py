"""Point [6]: shares, what they add up to, and what they carry."""

import unittest

from downweigh.shares import added, carries
from tests.things import both_ways, kept_as_is, odd_things

LEAST_X = ("least", [0, 1, 0])
JUST_Y = ("just", [-2, 0, 1])
BOTH = ("least", [3, 1, -1])
WISHES = [LEAST_X, JUST_Y, BOTH]


class Adding(unittest.TestCase):
    def test_sums(self):
        for wishes, shares, told in (
            ([LEAST_X], [(1, 2)], [(0, 1), (1, 2), (0, 1)]),
            ([JUST_Y], [(-1, 2)], [(1, 1), (0, 1), (-1, 2)]),
            (WISHES, [(1, 1), (2, 1), (1, 1)], [(-1, 1), (2, 1), (1, 1)]),
            (WISHES, [(1, 2), (-1, 3), (1, 6)], [(7, 6), (2, 3), (-1, 2)]),
            (WISHES, [(0, 1), (0, 1), (0, 1)], [(0, 1), (0, 1), (0, 1)]),
            ([("least", [4]), ("just", [-1])], [(1, 4), (1, 1)], [(0, 1)]),
        ):
            self.assertEqual(both_ways(self, added, wishes=wishes, shares=shares), told)

    def test_the_told_list_is_the_askers_own(self):
        shares = [(1, 1), (2, 1), (1, 1)]
        told = kept_as_is(self, added, WISHES, shares)
        told.append("mine")
        told[0] = "mine"
        self.assertEqual(added(WISHES, shares), [(-1, 1), (2, 1), (1, 1)])
        self.assertIsNot(added(WISHES, shares), added(WISHES, shares))


class Carrying(unittest.TestCase):
    def test_the_plain_number_may_be_less(self):
        shares = [(1, 1), (2, 1), (1, 1)]
        for line, told in (([-1, 2, 1], True), ([0, 2, 1], True), ([9, 2, 1], True), ([-2, 2, 1], False),
                           ([-1, 2, 2], False), ([-1, 3, 1], False), ([-1, 1, 1], False), ([-1, 2, 0], False)):
            self.assertIs(both_ways(self, carries, wishes=WISHES, line=line, thing=shares), told)

    def test_fractions_as_plain_number_and_as_factors(self):
        self.assertIs(carries([("least", [1, 0])], [1, 0], [(3, 2)]), False)
        self.assertIs(carries([("least", [1, 0])], [2, 0], [(3, 2)]), True)
        self.assertIs(carries([("least", [0, 1])], [2, 1], [(3, 2)]), False)

    def test_signs(self):
        self.assertIs(carries([JUST_Y], [2, 0, -1], [(-1, 1)]), True)
        self.assertIs(carries([("least", [-2, 0, 1])], [2, 0, -1], [(-1, 1)]), False)
        self.assertIs(carries([LEAST_X], [0, 0, 0], [(0, 1)]), True)
        self.assertIs(carries([LEAST_X], [-1, 0, 0], [(0, 1)]), False)
        self.assertIs(carries([("least", [-1, 0])], [-1, 0], [(2, 1)]), True)
        self.assertIs(carries([("least", [-1, 0])], [1, 0], [(-1, 1)]), False)

    def test_what_cannot_be(self):
        wishes = [("least", [-2, 1]), ("least", [1, -1])]
        self.assertIs(carries(wishes, [-1, 0], [(1, 1), (1, 1)]), True)
        self.assertIs(carries(wishes, [-1, 0], [(1, 2), (1, 2)]), False)
        self.assertIs(carries(wishes, [-1, 0], [(2, 1), (1, 1)]), False)

    def test_no_wishes(self):
        for line, told in (([0], True), ([5], True), ([-1], False), ([0, 0], True), ([3, 0, 0], True),
                           ([-1, 0], False), ([0, 1], False), ([5, 0, -1], False)):
            self.assertIs(carries([], line, []), told)
            self.assertIs(carries([], line, [(0, 1)]), False)

    def test_of_anything(self):
        for wishes, line in (([], [0]), ([LEAST_X], [0, 0, 0]), ([JUST_Y], [0, 0, 0]), (WISHES, [5, 0, 0])):
            for thing in odd_things():
                self.assertIs(carries(wishes, line, thing), False)
                self.assertIs(carries(wishes, line, [thing for wish in wishes] + [thing]), False)
                if wishes:
                    self.assertIs(carries(wishes, line, [thing for wish in wishes]), False)

    def test_one_too_few_too_many_or_in_a_tuple(self):
        nought = (0, 1)
        self.assertIs(carries(WISHES, [0, 0, 0], [nought] * 3), True)
        for thing in ([nought] * 2, [nought] * 4, (nought,) * 3, [], [nought, nought, 0], [nought, nought, (0, 2)],
                      [nought, nought, [0, 1]], [nought, nought, (0, -1)], {0: nought, 1: nought, 2: nought}):
            self.assertIs(carries(WISHES, [0, 0, 0], thing), False)

    def test_long_numbers(self):
        long = 10 ** 60 - 1
        self.assertIs(carries([("just", [long, -long])], [-1, 1], [(-1, long)]), True)
        self.assertIs(carries([("just", [long, -long])], [-2, 1], [(-1, long)]), False)

    def test_what_is_handed_in_stays(self):
        self.assertIs(kept_as_is(self, carries, WISHES, [-1, 2, 1], [(1, 1), (2, 1), (1, 1)]), True)


if __name__ == "__main__":
    unittest.main()
