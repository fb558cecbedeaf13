"""Point [5]: lines, wishes, and numbers that grant them."""

import unittest

from downweigh.errors import NoNumber
from downweigh.wishes import grants, is_line, is_wish, worth
from tests.things import both_ways, kept_as_is, odd_things

LONG = 10 ** 60 - 1


class Lines(unittest.TestCase):
    def test_lines_over_0_to_8_numbers(self):
        for many in range(9):
            for line in ([0] * (many + 1), list(range(-many, 1)), [LONG] * (many + 1), [-LONG] * (many + 1)):
                self.assertIs(both_ways(self, is_line, many=many, thing=line), True)
                self.assertIs(both_ways(self, is_wish, many=many, thing=("least", line)), True)
                self.assertIs(both_ways(self, is_wish, many=many, thing=("just", line)), True)

    def test_one_too_few_and_one_too_many(self):
        for many in range(9):
            for line in ([1] * many, [1] * (many + 2), []):
                self.assertIs(is_line(many, line), False)
                self.assertIs(is_wish(many, ("least", line)), False)

    def test_no_lines(self):
        for many in range(9):
            for thing in [*odd_things(), tuple([0] * (many + 1)), "0" * (many + 1), {at: 0 for at in range(many + 1)},
                          [True] + [0] * many, [0] * many + [False], [0] * many + [1.0], [0] * many + [None],
                          [0] * many + [(1, 1)], [0] * many + ["1"]]:
                self.assertIs(is_line(many, thing), False)
                self.assertIs(is_wish(many, ("least", thing)), False)
                self.assertIs(is_wish(many, ("just", thing)), False)

    def test_no_wishes(self):
        for many in range(9):
            line = [0] * (many + 1)
            for thing in [*odd_things(), line, ["least", line], ("least", line, line), ("least",), (line, "least"),
                          ("Least", line), ("least ", line), ("", line), ("most", line), (b"least", line),
                          (None, line), (True, line), (["least"], line), ("leastjust", line)]:
                self.assertIs(is_wish(many, thing), False)

    def test_other_numbers_of_numbers_are_refused_whatever_the_thing(self):
        for many in [-1, 9, 10, -LONG, LONG, *odd_things()]:
            for thing in (None, [0], ("least", [0]), [0, 0], "x", [0] * 10):
                for call in (is_line, is_wish):
                    with self.assertRaises(NoNumber) as caught:
                        call(many, thing)
                    self.assertIs(caught.exception.thing, many)


class Granting(unittest.TestCase):
    def test_worth(self):
        for line, numbers, told in (
            ([5], [], (5, 1)), ([0], [], (0, 1)), ([1, 2], [(3, 1)], (7, 1)), ([1, 2], [(-1, 2)], (0, 1)),
            ([0, 1, -1], [(1, 2), (1, 3)], (1, 6)), ([-1, 3, 0, 2], [(1, 3), (5, 7), (1, 4)], (1, 2)),
            ([LONG, LONG], [(-1, 1)], (0, 1)), ([0, LONG], [(1, LONG)], (1, 1)),
        ):
            self.assertEqual(both_ways(self, worth, line=line, numbers=numbers), told)

    def test_least(self):
        wish = ("least", [-1, 2])
        for number, told in (((1, 2), True), ((1, 1), True), ((0, 1), False), ((499, 1000), False), ((LONG, 1), True)):
            self.assertIs(grants([wish], [number]), told)

    def test_just(self):
        wish = ("just", [-1, 2])
        for number, told in (((1, 2), True), ((501, 1000), False), ((499, 1000), False), ((1, 1), False),
                             ((-1, 2), False), ((LONG, 2 * LONG + 1), False)):
            self.assertIs(grants([wish], [number]), told)

    def test_all_must_be_granted(self):
        low, high, one = ("least", [0, 1]), ("least", [2, -1]), ("just", [-1, 1])
        for wishes, number, told in (
            ([low, high], (1, 1), True), ([low, high], (3, 1), False), ([high, low], (-1, 1), False),
            ([low, high, one], (1, 1), True), ([one, low, high], (2, 1), False), ([low, low], (0, 1), True),
        ):
            self.assertIs(both_ways(self, grants, wishes=wishes, numbers=[number]), told)

    def test_no_wishes_and_no_numbers(self):
        self.assertIs(grants([], []), True)
        self.assertIs(grants([], [(1, 2)]), True)
        for word, plain, told in (("least", 0, True), ("least", 1, True), ("least", -1, False),
                                  ("just", 0, True), ("just", 1, False), ("just", -1, False)):
            self.assertIs(grants([(word, [plain])], []), told)

    def test_eight_numbers(self):
        numbers = [(1, at + 1) for at in range(8)]
        line = [-8] + [at + 1 for at in range(8)]
        self.assertEqual(worth(line, numbers), (0, 1))
        self.assertIs(grants([("just", line), ("least", line)], numbers), True)

    def test_what_is_handed_in_stays(self):
        wishes = [("least", [1, 2, 3]), ("just", [0, 0, 0])]
        self.assertIs(kept_as_is(self, grants, wishes, [(1, 2), (1, 3)]), True)
        self.assertEqual(kept_as_is(self, worth, [1, 2, 3], [(1, 2), (1, 3)]), (3, 1))
        self.assertIs(kept_as_is(self, is_line, 2, [1, 2, 3]), True)
        self.assertIs(kept_as_is(self, is_wish, 2, ("just", [1, 2, 3])), True)


if __name__ == "__main__":
    unittest.main()
