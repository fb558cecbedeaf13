"""Point [31]: codes as texts."""

import random
import unittest

from downweigh import errors
from downweigh.codetexts import read_code, shown_code
from tests.somecodes import CODES, some_code
from tests.things import Sour, all_own, both_ways, kept_as_is, odd_things, refused, spoil

NAMES = ["x", "y"]


def nested(deep):
    """The rows of a code so deep."""
    return ["round"] * (deep - 1) + ["end"] * (deep - 1)


class Case(unittest.TestCase):
    def wrong(self, row, text, names=NAMES):
        told = refused(self, errors.NoText, read_code, names, text)
        self.assertEqual((told.row, type(told.row)), (row, int), text)

    def good(self, text, names=NAMES):
        code = read_code(names, text)
        self.assertEqual(shown_code(names, code), text)
        return code


class Texts(Case):
    def test_each(self):
        for text, code in CODES.items():
            self.assertEqual(both_ways(self, shown_code, names=NAMES, code=code), text)
            self.assertEqual(both_ways(self, read_code, names=NAMES, text=text), code)
        self.assertEqual(shown_code(NAMES, []), "")
        self.assertEqual(read_code(NAMES, ""), [])

    def test_by_dice(self):
        dice = random.Random(31)
        for turn in range(400):
            many = dice.randint(1, 3)
            names = ["x", "yy", "abcdef"][:many]
            code = some_code(dice, many)
            text = kept_as_is(self, shown_code, names, code)
            self.assertIs(type(text), str)
            told = kept_as_is(self, read_code, names, text)
            self.assertEqual(told, code)
            all_own(self, told, names, code)

    def test_numbers_called_like_words(self):
        names = ["put", "read", "end"]
        for text in ("put put = read", "read read", "want end >= 0", "round put = 0\nread end\nend", "put end = 1 + end"):
            self.good(text, names)
        names = ["or", "either", "round"]
        for text in ("put or = either", "read round", "either\nread or\nor\nread either\nend", "want or + either >= 0"):
            self.good(text, names)

    def test_the_askers_own(self):
        line = [0, 1, 1]
        wishes = [("least", line), ("just", line)]
        code = [("want", wishes), ("round", wishes, []), ("put", 0, line), ("either", [[], []])]
        text = shown_code(NAMES, code)
        self.assertEqual(text, "want x + y >= 0 ; x + y = 0\nround x + y >= 0 ; x + y = 0\nend\nput x = x + y\neither\nor\nend")
        told = read_code(NAMES, text)
        all_own(self, told, code)
        spoil(told)
        self.assertEqual(read_code(NAMES, text), code)
        told = read_code(NAMES, "")
        spoil(told)
        self.assertEqual(read_code(NAMES, ""), [])

    def test_what_is_no_code(self):
        for thing in odd_things():
            refused(self, errors.NoCode, shown_code, NAMES, thing)
        for code in ([("read", 2)], [("read", 0)] * 9, [("either", [[]])], None, Sour()):
            refused(self, errors.NoCode, shown_code, NAMES, code)


class Refused(Case):
    def test_what_is_no_text(self):
        for thing in odd_things():
            if not isinstance(thing, str):
                self.wrong(0, thing)
        for thing in (b"read x", ["read x"], None, Sour()):
            self.wrong(0, thing)

    def test_rows_that_write_nothing(self):
        for row in (" ", "read", "read ", "read z", "read  x", "read x ", " read x", "read x y", "Read x", "read x'", "read 0", "readx", "read\tx",
                    "put", "put ", "put x", "put x =", "put x = ", "put x =0", "put x= 0", "put  x = 0", "put x  = 0", "put x = z", "put x = 0 ",
                    "put x = x + 1", "put x = 1*x", "put x = x'", "put z = 0", "put x = 0 = 0", "put x = 0 >= 0", "put x == 0", "put = 0", "put x = 1 = 0",
                    "want ", "want x", "want x >= 0 ", "want  x >= 0", "want x >= 0;y >= 0", "want x >= 0; y >= 0", "want x >= 0 ;y >= 0",
                    "want x >= 0 ; ", "want ; x >= 0", "want x >= 0 ;  ; y >= 0", "want x' >= 0", "want x >= 1", "want x <= 0", "want x >= 0 & y >= 0",
                    "wantx >= 0", "Want", "either ", "either x", "Either", "either x >= 0", "round ", "round x", "round x >= 0 ; ", "round x >= 0 ",
                    "round  x >= 0", "Round", "rounds", "or", "end", "or ", "end ", "", "x >= 0", "row a b", "numbers x"):
            if row != "":
                self.wrong(0, row)
            self.wrong(1, "read x\n" + row)
            self.wrong(0, row + "\nread x")
            if row not in ("or", "end"):
                self.wrong(2, "either\nor\n" + row + "\nend")
                self.wrong(1, "round\n" + row)

    def test_text_that_could_go_on(self):
        for text in ("either", "round", "either\nor", "either\nread x", "round x >= 0", "round\nread x", "either\nor\nor\nor", "round\neither",
                     "either\nround\nend\nor", "read x\nround\nround\nround", "either\nor\nend\nround"):
            self.wrong(len(text.split("\n")), text)

    def test_or_and_end_out_of_place(self):
        for row, text in ((0, "or"), (0, "end"), (1, "read x\nend"), (1, "read x\nor"), (1, "either\nend"), (2, "either\nread x\nend"), (1, "round\nor"),
                          (2, "round\nread x\nor"), (2, "round\nend\nend"), (3, "either\nor\nend\nor"), (3, "either\nor\nend\nend"),
                          (3, "either\nor\nround\nor"), (4, "either\nor\nor\nor\nor\nend"), (5, "either\nread x\nor\nor\nor\nor"),
                          (2, "either\neither\nend\nor\nend"), (4, "either\neither\nor\nend\nend")):
            self.wrong(row, text)

    def test_how_deep(self):
        for deep in range(1, 5):
            self.good("\n".join(nested(deep)))
        for deep in range(5, 9):
            self.wrong(3, "\n".join(nested(deep)))
        self.wrong(3, "round\nround\nround\neither\nor\nend\nend\nend\nend")
        self.wrong(3, "either\nround\neither\nround x >= 0")
        self.good("round\nround\nround\nread x\nend\nend\nend\nround\nround\nround\nend\nend\nend")
        self.wrong(9, "round\nround\nround\nread x\nend\nend\nend\nround\nround\nround\nround".replace("read x\nend", "end"))

    def test_how_many_parts(self):
        reads = "\n".join(["read x"] * 8)
        self.good(reads)
        for more in ("read x", "want", "either", "round", "put x = 0", "end", "or", "nothing", ""):
            self.wrong(8, reads + "\n" + more)
        self.good("round\n" + reads + "\nend")
        self.wrong(9, "round\n" + reads + "\nread y\nend")
        self.good("either\n" + reads + "\nor\n" + reads + "\nend")
        self.wrong(18, "either\n" + reads + "\nor\n" + reads + "\nread x\nend")
        laps = "\n".join(["round\nend"] * 8)
        self.good(laps)
        self.wrong(16, laps + "\nround\nend")

    def test_how_many_wishes(self):
        for word in ("want", "round"):
            end = "\nend" if word == "round" else ""
            for many in range(1, 5):
                self.good(word + " " + " ; ".join(["x >= 0"] * many) + end)
            for many in (5, 6):
                self.wrong(0, word + " " + " ; ".join(["x >= 0"] * many) + end)

    def test_the_first_row_that_is_wrong(self):
        self.wrong(1, "read x\nread z\nread z")
        self.wrong(1, "round\nread z")
        self.wrong(2, "round\nend\nreed x\nround")
        # a row feed more or less
        self.wrong(1, "read x\n")
        self.wrong(0, "\nread x")
        self.wrong(0, "\n")
        self.wrong(1, "read x\n\nread x")

    def test_every_text_with_a_row_or_a_sign_more_or_less(self):
        dice = random.Random(32)
        codes = [text for text in CODES if text] + [shown_code(NAMES, some_code(dice, 2)) for turn in range(8)]
        for text in codes:
            rows = text.split("\n")
            for at in range(len(rows) + 1):
                for other in (rows[:at] + rows[at + 1:], rows[:at] + rows[at:at + 1] + rows[at:], rows[:at] + ["end"] + rows[at:],
                              rows[:at] + ["or"] + rows[at:], rows[:at]):
                    self.look("\n".join(other))
            for at in range(len(text) + 1):
                for sign in ("", " ", "x", "0", "-", ";", "\n", "="):
                    self.look(text[:at] + sign + text[at + 1:])
                self.look(text[:at] + dice.choice(" x0-;\n=") + text[at:])

    def look(self, text):
        """Either the text is written so, or the rows up to the one told can't be gone on from, while those ahead of it can."""
        try:
            self.good(text)
            return
        except errors.NoText as told:
            row = told.row
        rows = text.split("\n") if text else []
        self.assertLessEqual(row, len(rows))
        self.assertTrue(can_go_on(rows[:row]), text)
        self.assertFalse(row < len(rows) and can_go_on(rows[:row + 1]), text)


def can_go_on(rows):
    """Whether some rows behind these make a code: all that is open is closed, with an or where there is none yet."""
    if "" in rows:
        # the text without signs is no rows at all, not one without signs
        return False
    for ends in range(4):
        for ors in range(2 ** ends):
            more = []
            for end in range(ends):
                more += ["or", "end"] if ors >> end & 1 else ["end"]
            text = "\n".join(rows + more)
            try:
                if shown_code(NAMES, read_code(NAMES, text)) == text:
                    return True
            except errors.NoText:
                continue
    return False


if __name__ == "__main__":
    unittest.main()
