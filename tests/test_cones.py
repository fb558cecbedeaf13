"""The inside of settling: corners and ways of all numbers that grant wishes."""

import random
import unittest

from downweigh.cones import corners_and_ways
from downweigh.follows import follows, granted
from downweigh.numbers import fraction
from downweigh.wishes import grants
from tests.things import all_own, kept_as_is, some_line, some_wishes

LONG = 10 ** 59 + 7


def numbers_at(corner):
    return [fraction(number, corner[0]) for number in corner[1:]]


def worth(line, vector):
    return sum(one * other for one, other in zip(line, vector))


class Cones(unittest.TestCase):
    def test_small_ones(self):
        for many, wishes, corners, ways in (
            (0, [], [[1]], []), (0, [("least", [-1])], [], []), (0, [("just", [0])], [[1]], []), (0, [("least", [5])], [[1]], []),
            (1, [], [[1, 0]], [[0, -1], [0, 1]]), (1, [("least", [-3, 1])], [[1, 3]], [[0, 1]]), (1, [("just", [-3, 2])], [[2, 3]], []),
            (1, [("least", [-3, 1]), ("least", [5, -1])], [[1, 3], [1, 5]], []), (1, [("least", [-5, 1]), ("least", [3, -1])], [], []),
            (1, [("least", [-3, 1]), ("just", [3, -1])], [[1, 3]], []), (1, [("just", [1, 0])], [], [[0, -1], [0, 1]]),
            (2, [("least", [0, 1, 0]), ("least", [0, 0, 1]), ("least", [4, -1, -1])], [[1, 0, 0], [1, 0, 4], [1, 4, 0]], []),
            (2, [("least", [0, 1, 0]), ("least", [0, 0, 1]), ("least", [-4, 1, 1])], [[1, 0, 4], [1, 4, 0]], [[0, 0, 1], [0, 1, 0]]),
            (2, [("just", [-1, 1, 1])], None, [[0, -1, 1], [0, 1, -1]]),
            # the same wish more often than once
            (1, [("least", [-3, 1])] * 5, [[1, 3]], [[0, 1]]), (1, [("just", [-3, 2])] * 5, [[2, 3]], []),
        ):
            told = corners_and_ways(many, wishes)
            if corners is not None:
                self.assertEqual(sorted(told[0]), corners, wishes)
            self.assertEqual(sorted(told[1]), ways, wishes)

    def test_a_cube(self):
        wishes = [("least", [0] + [int(at == side) for at in range(6)]) for side in range(6)]
        wishes += [("least", [1] + [-int(at == side) for at in range(6)]) for side in range(6)]
        corners, ways = corners_and_ways(6, wishes)
        self.assertEqual(sorted(corners), sorted([[1] + [number >> at & 1 for at in range(6)] for number in range(64)]))
        self.assertEqual(ways, [])

    def test_all_corners_and_ways_and_no_others(self):
        dice = random.Random(24)
        told = {"shares": 0, "fails": 0, "none": 0}
        for turn in range(1200):
            many = dice.choice((1, 2, 2, 3, 4, 6))
            wishes = some_wishes(dice, many, dice.choice((3, 7, 12)))
            corners, ways = kept_as_is(self, corners_and_ways, many, wishes)
            all_own(self, (corners, ways), wishes)
            self.assertEqual(corners == [], granted(many, wishes)[0] == "shares")
            for corner in corners:
                self.assertGreater(corner[0], 0)
                self.assertTrue(grants(wishes, numbers_at(corner)))
            for way in ways:
                self.assertEqual(way[0], 0)
                for word, line in wishes:
                    self.assertTrue(worth(line, way) == 0 if word == "just" else worth(line, way) >= 0)
            # a line follows just where it is nought or more at all corners and not less along all ways
            line = some_line(dice, many)
            word = follows(many, wishes, line)[0]
            told[word] += 1
            if word != "none":
                self.assertEqual(word == "shares", all(worth(line, vector) >= 0 for vector in corners + ways))
        self.assertGreater(min(told.values()), 50)

    def test_lines_that_nearly_fail(self):
        dice = random.Random(25)
        for turn in range(200):
            many = dice.choice((2, 3, 4))
            wishes = [("least", [dice.randint(0, 5)] + [dice.randint(-3, 3) for at in range(many)]) for wish in range(9)]
            corners, ways = corners_and_ways(many, wishes)
            line = some_line(dice, many)
            if any(worth(line, way) < 0 for way in ways):
                continue
            # as low as the line gets at the corners, and no lower
            low = min((fraction(worth([0, *line[1:]], corner), corner[0]) for corner in corners), key=lambda one: one[0] / one[1])
            factors = [low[1] * factor for factor in line[1:]]
            self.assertEqual(follows(many, wishes, [-low[0], *factors])[0], "shares")
            self.assertEqual(follows(many, wishes, [-low[0] - 1, *factors])[0], "fails")

    def test_long_numbers(self):
        wishes = [("least", [-LONG, LONG + 1]), ("least", [LONG * 3, -LONG])]
        self.assertEqual(sorted(corners_and_ways(1, wishes)[0]), [[1, 3], [LONG + 1, LONG]])


if __name__ == "__main__":
    unittest.main()
