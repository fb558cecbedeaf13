"""Points [30] and [3](h): programs made of codes."""

import random
import unittest

from downweigh import errors
from downweigh.codetexts import read_code
from downweigh.making import made
from downweigh.programs import look_at
from downweigh.progtexts import shown_program
from downweigh.settling import sets_of
from tests.somecodes import CODES, Ways, some_code
from tests.things import Sour, all_own, both_ways, kept_as_is, refused, spoil

READ = ("read", 0)
STAY = ["-x + x' = 0", "-y + y' = 0"]


def told_of(text, names=("x", "y")):
    """The places and the rows of the program of a code's text, each row as a text and the texts of its wishes."""
    program = made(list(names), read_code(list(names), text))
    look_at(program)
    rows = shown_program(program).split("\n")
    told = []
    for row in rows[2:]:
        if row.startswith("row "):
            told.append((row[4:], []))
        else:
            told[-1][1].append(row)
    return (rows[1][7:], told)


class Made(unittest.TestCase):
    def check(self, text, places, *rows, names=("x", "y")):
        self.assertEqual(told_of(text, names), (places, [(way, list(wishes)) for way, wishes in rows]))

    def test_each_kind_alone(self):
        self.check("", "a b", ("a b", STAY))
        self.check("put x = 3 - 2*x + y", "a b", ("a b", ["-3 + 2*x - y + x' = 0", "-y + y' = 0"]))
        self.check("put y = 5", "a b", ("a b", ["-x + x' = 0", "-5 + y' = 0"]))
        self.check("put y = y", "a b", ("a b", STAY))
        self.check("read x", "a b", ("a b", ["-y + y' = 0"]))
        self.check("read y", "a b", ("a b", ["-x + x' = 0"]))
        self.check("want", "a b", ("a b", STAY))
        self.check("want x >= 0 ; 1 - y = 0", "a b", ("a b", [*STAY, "x >= 0", "1 - y = 0"]))
        self.check("either\nor\nread x\nend", "a b", ("a b", STAY), ("a b", ["-y + y' = 0"]))
        self.check("round\nend", "a b c", ("a c", STAY), ("c c", STAY), ("c b", STAY))
        self.check("round x >= 0\nread x\nend", "a b c", ("a c", STAY), ("c c", ["x >= 0", "-y + y' = 0"]), ("c b", STAY))
        self.check("read x", "a b", ("a b", []), names=("x",))
        self.check("put zz = 1 + x", "a b", ("a b", ["-x + x' = 0", "-yy + yy' = 0", "-1 - x + zz' = 0"]), names=("x", "yy", "zz"))

    def test_one_behind_the_other(self):
        stays, reads = STAY, ["-y + y' = 0"]
        self.check("read x\nread x", "a b c", ("a c", reads), ("c b", reads))
        self.check("read x\nwant\nread x\nwant", "a b c d e", ("a c", reads), ("c d", stays), ("d e", reads), ("e b", stays))
        # the place behind a part comes ahead of those within it
        self.check("round\nread x\nend\nread x", "a b c d", ("a d", stays), ("d d", reads), ("d c", stays), ("c b", reads))
        self.check("read x\nround\nread x\nend", "a b c d", ("a c", reads), ("c d", stays), ("d d", reads), ("d b", stays))
        self.check("either\nread x\nwant\nor\nend\nread x", "a b c d", ("a d", reads), ("d c", stays), ("a c", stays), ("c b", reads))
        self.check("either\nround\nend\nor\nread x\nread x\nend\nwant", "a b c d e", ("a d", stays), ("d d", stays), ("d c", stays),
                   ("a e", reads), ("e c", reads), ("c b", stays))

    def test_wishes_stand_at_the_first_part_alone(self):
        stays, reads = STAY, ["-y + y' = 0"]
        self.check("round x >= 0 ; y = 0\nread x\nwant y >= 0\nend", "a b c d", ("a c", stays), ("c d", ["x >= 0", "y = 0", *reads]),
                   ("d c", [*stays, "y >= 0"]), ("c b", stays))
        self.check("round x >= 0\nwant y >= 0\nend", "a b c", ("a c", stays), ("c c", ["x >= 0", *stays, "y >= 0"]), ("c b", stays))
        self.check("round x >= 0\nput x = 1 + y\nend", "a b c", ("a c", stays), ("c c", ["x >= 0", "-1 - y + x' = 0", "-y + y' = 0"]), ("c b", stays))
        self.check("round x >= 0\nend", "a b c", ("a c", stays), ("c c", ["x >= 0", *stays]), ("c b", stays))
        # at each code of an either
        self.check("round x >= 0\neither\nread x\nread x\nor\nor\nwant\nend\nread x\nend", "a b c d e", ("a c", stays), ("c e", ["x >= 0", *reads]),
                   ("e d", reads), ("c d", ["x >= 0", *stays]), ("c d", ["x >= 0", *stays]), ("d c", reads), ("c b", stays))
        # at the row to a round's own place
        self.check("round x >= 0\nround y >= 0\nread x\nend\nend", "a b c d", ("a c", stays), ("c d", ["x >= 0", *stays]), ("d d", ["y >= 0", *reads]),
                   ("d c", stays), ("c b", stays))
        self.check("round x >= 0\nround\nend\nend", "a b c d", ("a c", stays), ("c d", ["x >= 0", *stays]), ("d d", stays), ("d c", stays), ("c b", stays))

    def test_the_most_wishes_of_a_row(self):
        wishes = [("least", [at, 1, 1, 1]) for at in range(4)]
        names = ["x", "y", "z"]
        program = made(names, [("round", wishes, [("want", wishes)])])
        ahead = [(word, line + [0, 0, 0]) for word, line in wishes]
        stays = [("just", [0] + [-int(at == one) for at in range(3)] + [int(at == one) for at in range(3)]) for one in range(3)]
        self.assertEqual(program, (names, ["a", "b", "c"], [(0, 2, stays), (2, 2, ahead + stays + ahead), (2, 1, stays)]))
        look_at(program)

    def test_how_many_places_and_rows(self):
        def many(code):
            names, places, rows = made(["x"], code)
            self.assertEqual(places, ["a", "b", "c", "d", "e", "f"][:len(places)])
            return (len(places), len(rows))

        self.assertEqual(many([READ] * 5), (6, 5))
        refused(self, errors.TooMany, made, ["x"], [READ] * 6)
        lap = ("round", [], [])
        self.assertEqual(many([lap]), (3, 3))
        self.assertEqual(many([lap, lap]), (5, 6))
        refused(self, errors.TooMany, made, ["x"], [lap, lap, lap])
        # six places and ten rows, one row more, one place more
        either = ("either", [[], [], [], []])
        self.assertEqual(many([either, either]), (3, 8))
        self.assertEqual(many([either, either, ("either", [[], []])]), (4, 10))
        refused(self, errors.TooMany, made, ["x"], [either, either, ("either", [[], [], []])])
        refused(self, errors.TooMany, made, ["x"], [either, either, either])
        self.assertEqual(many([lap, either, READ, READ]), (6, 9))
        self.assertEqual(many([lap, either, READ, ("either", [[], []])]), (6, 10))
        refused(self, errors.TooMany, made, ["x"], [lap, either, READ, ("either", [[], [], []])])
        refused(self, errors.TooMany, made, ["x"], [lap, either, READ, READ, READ])
        refused(self, errors.TooMany, made, ["x"], [lap, either, READ, lap])
        # a code of very many parts
        for level in range(2):
            either = ("either", [[either] * 8] * 4)
        refused(self, errors.TooMany, made, ["x"], [either] * 8)

    def test_what_is_no_code_goes_first(self):
        refused(self, errors.NoCode, made, ["x"], [READ] * 9)
        refused(self, errors.NoCode, made, ["x"], [READ] * 7 + [("read", 1)])
        refused(self, errors.NoCode, made, ["x"], Sour())

    def test_what_is_handed_in_and_the_askers_own(self):
        wishes = [("least", [0, 1, 1]), ("just", [0, 1, 1])]
        wishes.append(wishes[0])
        inner = [("want", wishes), ("put", 0, wishes[0][1])]
        for code in [*CODES.values(), [("round", wishes, [("either", [inner, inner])])], [("put", 1, wishes[0][1])]]:
            names = ["x", "y"]
            told = kept_as_is(self, made, names, code)
            all_own(self, told, names, code)
            self.assertEqual(both_ways(self, made, names=names, code=code), told)
            again = repr(told)
            spoil(told)
            self.assertEqual(repr(made(names, code)), again)

    def test_rounds_within_rounds_end(self):
        names = ["x", "y"]
        code = read_code(names, "round -1 + x >= 0 ; -1 + y >= 0\neither\nput x = -1 + x\nor\nput y = -1 + y\nend\nend")
        self.assertEqual(sets_of(made(names, code)), ([], [[0, 3], [1, 2]], []))
        code = read_code(names, "round x >= 0\nput x = 1 + x\nend")
        self.assertEqual(sets_of(made(names, code)), ([], [[0, 2]], [1]))


class Gone(unittest.TestCase):
    """Runs from the begin to the end, beside the code gone part by part."""

    def check(self, many, code, low, high):
        names = ["x", "y", "z"][:many]
        try:
            program = made(names, code)
        except errors.TooMany:
            return None
        look_at(program)
        ways = Ways(many, low, high)
        told = ways.code(code)
        self.assertEqual(ways.program(program), told)
        return len(told)

    def test_each(self):
        for code in CODES.values():
            self.check(2, code, -1, 1)

    def test_by_dice(self):
        dice = random.Random(30)
        some = none = 0
        for turn in range(400):
            told = self.check(1, some_code(dice, 1), -3, 3)
            if told is not None:
                some += told > 7
                none += told == 0
        for turn in range(60):
            self.check(2, some_code(dice, 2), -1, 1)
        self.assertGreater(min(some, none), 20)


if __name__ == "__main__":
    unittest.main()
