"""Point [10]: what is a program, and how what is none is refused."""

import unittest

from downweigh.errors import NoProgram
from downweigh.programs import MOST_PLACES, MOST_ROWS, look_at
from tests.things import Sour, kept_as_is, odd_things

LEAST = ("least", [1, -1, 1])
JUST = ("just", [0, 1, -1])
GOOD = (["x"], ["a", "b"], [(0, 1, [LEAST]), (1, 1, [LEAST, JUST]), (1, 0, [])])


def with_rows(rows):
    return (["x"], ["a", "b"], rows)


class Good(unittest.TestCase):
    def test_bounds_told(self):
        self.assertEqual((MOST_PLACES, MOST_ROWS), (6, 10))
        self.assertEqual((type(MOST_PLACES), type(MOST_ROWS)), (int, int))

    def test_programs(self):
        three = ["x", "y", "zzzzzz"]
        six = ["a", "b", "c", "d", "e", "abcdef"]
        wide = ("just", [10 ** 60 - 1] * 7)
        for program in (
            GOOD, (["x"], ["a"], []), (["x"], ["x"], []), (three, six, []), (["x", "y"], ["y", "x"], []),
            (three, six, [(5, 0, [wide] * 12)] * 10), (["x"], ["a"], [(0, 0, [])]),
            (["x"], ["a"], [(0, 0, [LEAST] * 12)] * 10), (["abcdef"], ["zyxwvu"], [(0, 0, [JUST])]),
            (["x", "y"], ["a"], [(0, 0, [("least", [0, 1, 2, 3, 4])])]),
        ):
            self.assertIsNone(look_at(program))
            self.assertIsNone(look_at(thing=program))

    def test_what_is_handed_in_stays(self):
        self.assertIsNone(kept_as_is(self, look_at, GOOD))


class Refused(unittest.TestCase):
    def check(self, thing, part, number):
        with self.assertRaises(NoProgram) as caught:
            look_at(thing)
        told = caught.exception
        self.assertEqual((told.part, told.number), (part, number))
        self.assertIs(type(told.number), type(number))

    def test_no_tuple_of_three(self):
        for thing in [*odd_things(), list(GOOD), GOOD[:2], (*GOOD, []), 5, -1]:
            if isinstance(thing, tuple) and len(thing) == 3:
                continue
            self.check(thing, None, None)

    def test_three_of_anything(self):
        for thing in odd_things():
            self.check((thing, thing, thing), "names", 0 if isinstance(thing, list) and len(thing) in (1, 2, 3) else None)

    def test_names(self):
        for names, number in (
            ([], None), (["a", "b", "c", "d"], None), ("a", None), (("a",), None), (None, None), ({"a": 1}, None),
            ([""], 0), (["abcdefg"], 0), (["A"], 0), (["a1"], 0), (["a "], 0), (["a'"], 0), (["a_b"], 0), (["\u00e4"], 0),
            (["a\n"], 0), ([b"a"], 0), ([None], 0), ([["a"]], 0), ([True], 0), ([Sour()], 0),
            (["a", "a"], 1), (["a", "b", "a"], 2), (["a", "b", "b"], 2), (["a", 1, 1], 1), (["a", "b", ""], 2),
            (["a", Sour(), "a"], 1), (["a", "a", Sour()], 1), (["\u00e4", "a"], 0),
        ):
            self.check((names, ["a"], []), "names", number)
            self.check((names, None, None), "names", number)

    def test_places(self):
        for places, number in (
            ([], None), (list("abcdefg"), None), ("a", None), (("a",), None), (None, None), (3, None),
            ([""], 0), (["abcdefg"], 0), (["B"], 0), ([3], 0), (["a", "b", "a"], 2), (list("abcdef")[:5] + ["a"], 5),
            (["a", "b", "c'"], 2), (["a", None, None], 1), (list("abcdee"), 5), ([Sour()], 0),
        ):
            self.check((["x"], places, []), "places", number)
            self.check((["x"], places, Sour()), "places", number)

    def test_rows_that_are_no_list_or_too_many(self):
        for rows in (None, (), "rows", {}, 3, ((0, 0, []),), [(0, 0, [])] * 11, [None] * 11, Sour()):
            self.check(with_rows(rows), "rows", None)

    def test_rows_of_anything(self):
        good = (0, 1, [LEAST])
        for thing in odd_things():
            for row in (thing, (thing, 0, []), (0, thing, []), (0, 0, [thing]), (0, 0, [LEAST, thing])):
                self.check(with_rows([row]), "rows", 0)
                self.check(with_rows([good, row, row]), "rows", 1)
            self.check(with_rows([good, good, (0, 0, thing)]), "rows", 2)

    def test_rows_one_by_one(self):
        good = (0, 1, [LEAST])
        for row in (
            (0, 1), (0, 1, [], []), [0, 1, []], (-1, 0, []), (0, -1, []), (2, 0, []), (0, 2, []), (True, 0, []),
            (0, False, []), ("a", "b", []), (0, 0, ()), (0, 0, None), (0, 0, [LEAST] * 13), (0, 0, LEAST),
            (0, 0, [("least", [0, 1])]), (0, 0, [("least", [0, 1, 2, 3])]), (0, 0, [("most", [0, 1, 2])]),
            (0, 0, [["least", [0, 1, 2]]]), (0, 0, [LEAST, ("least", (0, 1, 2))]), (0, 0, [("just", [0, True, 1])]),
            (0.0, 0, []), (0, 0, [("least", [0, 1.0, 2])]), (10 ** 60, 0, []),
        ):
            self.check(with_rows([row]), "rows", 0)
            self.check(with_rows([good] * 9 + [row]), "rows", 9)

    def test_wishes_go_over_twice_as_many_numbers(self):
        for many in (1, 2, 3):
            names = ["x", "y", "z"][:many]
            for width in range(9):
                program = (names, ["a"], [(0, 0, [("least", [0] * (width + 1))])])
                if width == 2 * many:
                    self.assertIsNone(look_at(program))
                else:
                    self.check(program, "rows", 0)

    def test_the_first_part_goes_first(self):
        self.check(([], [], None), "names", None)
        self.check((["x"], [], None), "places", None)
        self.check((["x", "x"], ["a", "a"], [None]), "names", 1)
        self.check((["x"], ["a", "a"], [None]), "places", 1)
        self.check((["x"], ["a"], [None, None]), "rows", 0)


if __name__ == "__main__":
    unittest.main()
