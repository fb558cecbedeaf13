"""Point [29]: what is a code."""

import random
import unittest

from downweigh import errors
from downweigh.codes import look_at_code
from downweigh.codetexts import shown_code
from downweigh.making import made
from tests.somecodes import CODES, some_code
from tests.things import Sour, bent, both_ways, kept_as_is, odd_things, refused, ring

READ = ("read", 0)
WISH = ("least", [0, 1])
TAKERS = (look_at_code, made, shown_code)


def nested(deep, kind="round"):
    """A code so deep."""
    code = []
    for level in range(deep - 1):
        code = [("round", [], code)] if kind == "round" else [("either", [[], code])]
    return code


class Case(unittest.TestCase):
    def good(self, code, names=("x",)):
        self.assertIsNone(look_at_code(list(names), code))

    def bad(self, code, names=("x",)):
        for call in TAKERS:
            refused(self, errors.NoCode, call, list(names), code)


class Codes(Case):
    def test_each_kind(self):
        for code in CODES.values():
            self.good(code, "xy")
            self.assertIsNone(kept_as_is(self, look_at_code, ["x", "y"], code))
            self.assertIsNone(both_ways(self, look_at_code, names=["x", "y"], thing=code))

    def test_by_dice(self):
        dice = random.Random(29)
        for turn in range(300):
            many = dice.randint(1, 3)
            self.good(some_code(dice, many), ["x", "y", "z"][:many])

    def test_how_many_parts(self):
        self.good([])
        self.good([READ])
        self.good([READ] * 8)
        self.bad([READ] * 9)
        self.bad([READ] * 40)
        self.good([("round", [], [READ] * 8)])
        self.bad([("round", [], [READ] * 9)])
        self.bad([("either", [[], [READ] * 9])])

    def test_how_many_codes(self):
        for many in range(7):
            (self.good if 2 <= many <= 4 else self.bad)([("either", [[]] * many)])
            (self.good if 2 <= many <= 4 else self.bad)([("round", [], [("either", [[READ]] * many)])])

    def test_how_deep(self):
        for kind in ("round", "either"):
            for deep in range(1, 8):
                (self.good if deep <= 4 else self.bad)(nested(deep, kind))
                (self.good if deep <= 4 else self.bad)([READ] * 7 + nested(deep, kind))
        self.good([("either", [nested(3), nested(3, "either"), [], [READ]])])
        self.bad([("either", [nested(3), nested(4, "either"), [], [READ]])])
        self.bad([("either", [[], [], [], nested(4)])])
        within = []
        within.append(("round", [], within))
        self.bad(within)
        within = []
        within.extend([("either", [within] * 4)] * 8)
        self.bad(within)

    def test_how_many_wishes(self):
        for many in range(7):
            (self.good if many <= 4 else self.bad)([("want", [WISH] * many)])
            (self.good if many <= 4 else self.bad)([("round", [WISH] * many, [])])

    def test_numbers_and_lines(self):
        for names in (["x"], ["x", "y"], ["x", "y", "zzzzzz"]):
            many = len(names)
            for number in range(-2, 6):
                check = self.good if 0 <= number < many else self.bad
                check([("read", number)], names)
                check([("put", number, [0] * (many + 1))], names)
            for width in range(6):
                check = self.good if width == many + 1 else self.bad
                check([("put", 0, [1] * width)], names)
                check([("want", [("least", [1] * width)])], names)
                check([("round", [("just", [1] * width)], [])], names)

    def test_other_forms(self):
        for part in (("put", 0), ("put", 0, [0, 0], []), ("put", [0, 0], 0), ["put", 0, [0, 0]], ("Put", 0, [0, 0]), ("put", 0, (0, 0)), ("put", 0.0, [0, 0]),
                     ("put", True, [0, 0]), ("put", 0, [True, 0]), ("put", "x", [0, 0]), ("put",), ("read",), ("read", 0, 0), ("read", "x"), ("read", False),
                     ("read", [0]), ["read", 0], ("read", None), ("want",), ("want", WISH), ("want", (WISH,)), ("want", [WISH], [WISH]), ("want", None),
                     ("want", [["least", [0, 1]]]), ("want", [("most", [0, 1])]), ("either",), ("either", [], []), ("either", ([], [])),
                     ("either", [[], ()]), ("either", [[], READ]), ("either", [[], None]), ("either", None), ("round",), ("round", []), ("round", [], [], []),
                     ("round", [WISH]), ("round", [], READ), ("round", [], ()), ("round", [], None), ("round", None, []), ("round", WISH, []),
                     ("or",), ("end",), ("", 0), (None, 0), (0, 0), (b"read", 0), "read", ("read x",), (), (READ,), {"read": 0}):
            self.bad([part])
            self.bad([READ, part])
            self.bad([("round", [], [part])])
            self.bad([("either", [[], [part]])])
            self.bad(part)
        self.bad([[READ]])
        for code in (tuple([READ]), READ, {0: READ}, None, "read x", iter([READ])):
            self.bad(code)

    def test_bent(self):
        for text, code in CODES.items():
            for other in bent(code):
                try:
                    look_at_code(["x", "y"], other)
                except errors.NoCode:
                    continue
                # what is still a code is written so
                self.assertIsInstance(shown_code(["x", "y"], other), str)

    def test_of_anything(self):
        for thing in [*odd_things(), ring(), Sour()]:
            for code in (thing, [thing], [("put", thing, [0, 0])], [("put", 0, thing)], [("put", 0, [thing, 0])], [("read", thing)], [("want", thing)],
                         [("want", [thing])], [("either", thing)], [("either", [[], thing])], [("either", [[], [thing]])], [("round", thing, [])],
                         [("round", [thing], [])], [("round", [], thing)], [("round", [], [thing])], [(thing, 0)], [(thing,)]):
                self.bad(code)


if __name__ == "__main__":
    unittest.main()
