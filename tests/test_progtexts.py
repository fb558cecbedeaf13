"""Point [11]: programs written as rows of text, and read back."""

import random
import re
import unittest

from downweigh.errors import NoText
from downweigh.progtexts import read_program, shown_program
from tests.things import all_own, both_ways, kept_as_is, odd_things, refused, some_program, takes_programs_alone

LONG = 10 ** 40 - 1
THREE = ["x", "y", "zzzzzz"]
SIX = ["a", "b", "c", "d", "e", "abcdef"]
WISH = ("least", [1, -1, 1])
WRITTEN = (
    ((["x"], ["a"], []), "numbers x\nplaces a"),
    ((["x"], ["a"], [(0, 0, [])]), "numbers x\nplaces a\nrow a a"),
    ((["x"], ["a"], [(0, 0, [("just", [1, -1, 1])])]), "numbers x\nplaces a\nrow a a\n1 - x + x' = 0"),
    ((["x"], ["x"], [(0, 0, [("least", [0, 1, -1])])]), "numbers x\nplaces x\nrow x x\nx - x' >= 0"),
    ((["x", "y"], ["a", "b"], [(0, 1, [("just", [0, 1, 0, -1, 0]), ("least", [5, 0, -2, 0, 3])]), (1, 0, [])]),
     "numbers x y\nplaces a b\nrow a b\nx - x' = 0\n5 - 2*y + 3*y' >= 0\nrow b a"),
    ((THREE, SIX, [(5, 0, [("just", [0, 0, 0, 0, 0, 0, 0]), ("least", [-1, 0, 0, 0, 0, 0, -1])])]),
     "numbers x y zzzzzz\nplaces a b c d e abcdef\nrow abcdef a\n0 = 0\n-1 - zzzzzz' >= 0"),
    ((["x"], ["a"], [(0, 0, [("least", [-LONG, LONG, -LONG])])]),
     f"numbers x\nplaces a\nrow a a\n-{LONG} + {LONG}*x - {LONG}*x' >= 0"),
    # what is called by a word of the text itself
    ((["row"], ["row", "places"], [(0, 1, [("just", [0, 1, 0]), ("least", [0, 0, 1])]), (1, 1, [])]),
     "numbers row\nplaces row places\nrow row places\nrow = 0\nrow' >= 0\nrow places places"),
    ((["places"], ["row"], [(0, 0, [("least", [0, 1, 0])])]), "numbers places\nplaces row\nrow row row\nplaces >= 0"),
)


def is_names(words, most):
    return 1 <= len(words) <= most and len(set(words)) == len(words) and all(re.fullmatch("[a-z]{1,6}", w) for w in words)


def is_wish_text(names, text):
    """Whether a text writes a wish, told apart from how the program reads it."""
    found = re.fullmatch(r"(.*) (?:>=|=) 0", text)
    if not found:
        return False
    if found[1] == "0":
        return True
    spots = ["", *names, *(name + "'" for name in names)]
    last = -1
    for sign, word in re.findall(r"(^-?| \+ | - |^)([^ ]+)", found[1]):
        term = re.fullmatch(r"(?:(\d+)\*)?([a-z]+'?)|(\d+)", word)
        if not term or (term[2] or "") not in spots:
            return False
        size = term[1] or term[3]
        if size is not None and (size.startswith("0") or (size == "1" and term[2])):
            return False
        if spots.index(term[2] or "") <= last:
            return False
        last = spots.index(term[2] or "")
    return re.fullmatch(r"-?[^ +-]+(?: [+-] [^ +-]+)*", found[1]) is not None


def first_wrong(text):
    """The row of text from which on no program's text begins so; None where the text is a program's."""
    texts = text.split("\n")
    first = texts[0].split(" ")
    if first[0] != "numbers" or not is_names(first[1:], 3):
        return 0
    if len(texts) == 1:
        return 1
    second = texts[1].split(" ")
    if second[0] != "places" or not is_names(second[1:], 6):
        return 1
    rows, wishes = 0, None
    for at, row in enumerate(texts[2:], start=2):
        words = row.split(" ")
        if len(words) == 3 and words[0] == "row" and set(words[1:]) <= set(second[1:]):
            rows, wishes = rows + 1, 0
        elif wishes is not None and is_wish_text(first[1:], row):
            wishes += 1
        else:
            return at
        if rows > 10 or wishes > 12:
            return at
    return None


class Written(unittest.TestCase):
    def test_written_and_read_back(self):
        for program, text in WRITTEN:
            self.assertEqual(both_ways(self, shown_program, program=program), text)
            self.assertEqual(both_ways(self, read_program, text=text), program)
            self.assertIsNone(first_wrong(text))

    def test_the_mosts(self):
        wide = ("just", [LONG, -LONG, 1, -1, 0, LONG, -LONG])
        for program in (
            (["x"], ["a"], [(0, 0, [WISH] * 12)] * 10), (THREE, SIX, [(5, 0, [wide] * 12)] * 10),
            (THREE, SIX, [(at % 6, 0, []) for at in range(10)]), (["x"], SIX, [(0, 5, [WISH] * 12)]),
        ):
            text = shown_program(program)
            self.assertEqual(text.count("\n"), 1 + sum(1 + len(row[2]) for row in program[2]))
            self.assertEqual(read_program(text), program)

    def test_numbers_of_very_many_figures_told_here(self):
        program = (["x"], ["a"], [(0, 0, [("least", [7 ** 6000, -(7 ** 6000), 1])])])
        self.assertEqual(read_program(shown_program(program)), program)

    def test_many_programs(self):
        dice = random.Random(11)
        for turn in range(300):
            program = some_program(dice, most_wishes=12, size=dice.choice((1, 3, 12, LONG)))
            text = shown_program(program)
            self.assertEqual(read_program(text), program)
            self.assertIsNone(first_wrong(text))

    def test_what_is_no_program(self):
        takes_programs_alone(self, shown_program)

    def test_the_askers_own(self):
        line = [1, -1, 1]
        wishes = [("least", line), ("just", line)]
        program = (["x"], ["a"], [(0, 0, wishes), (0, 0, wishes)])
        text = kept_as_is(self, shown_program, program)
        told = kept_as_is(self, read_program, text)
        all_own(self, told, program)
        told[2][0][2][0][1].append(3)
        told[0].append("y")
        told[2].pop()
        self.assertEqual(read_program(text), program)
        self.assertEqual(shown_program(program), text)


class Refused(unittest.TestCase):
    def check(self, text, row):
        told = refused(self, NoText, read_program, text)
        self.assertEqual(told.row, row, text)
        self.assertIs(type(told.row), int)

    def test_what_is_no_text(self):
        for thing in odd_things():
            self.check(thing, 0)
        self.check(b"numbers x\nplaces a", 0)
        self.check(["numbers x", "places a"], 0)

    def test_the_row_of_numbers(self):
        for first in ("", " ", "numbers", "numbers ", "number x", "numbers  x", " numbers x", "numbers x ", "numbers x  y",
                      "Numbers x", "numbers X", "numbers x y z w", "numbers x x", "numbers x y x", "numbers abcdefg",
                      "numbers x,y", "numbers x'", "numbers 1", "numbers x\t", "numbers\tx", "numbers x1", "places a",
                      "row a a", "x = 0", "numbersx", "numbers x\r"):
            for rest in ("", "\n", "\nplaces a", "\nplaces", "\nplaces a\nrow a a"):
                self.check(first + rest, 0)

    def test_a_text_cut_off(self):
        self.check("numbers x", 1)
        self.check("numbers x y z", 1)

    def test_the_row_of_places(self):
        for second in ("", " ", "places", "places ", "place a", "places  a", " places a", "places a ", "places a a",
                       "places a b c d e f g", "places a b a", "places abcdefg", "places A", "numbers x", "row a a", "x = 0",
                       "places a'", "places a,b"):
            for rest in ("", "\n", "\nrow a a", "\nnonsense"):
                self.check("numbers x\n" + second + rest, 1)

    def test_rows_of_rows(self):
        for row in ("", " ", "row", "row a", "row a a a", "row a c", "row c a", "row  a a", "row a  a", "row a a ", " row a a",
                    "Row a a", "row A a", "rows a a", "row a a\t", "row 0 0", "row a,b", "x = 0", "1 - x + x' >= 0", "places a",
                    "numbers x"):
            self.check("numbers x\nplaces a b\n" + row, 2)
            self.check("numbers x\nplaces a b\n" + row + "\nrow a a", 2)

    def test_rows_of_wishes(self):
        for wish in ("", "x", "0", "x = 1", "x >= 1", "x > 0", "x == 0", "x= 0", "x =0", "1*x = 0", "0*x = 0", "x' + x = 0",
                     "x + x = 0", "x'' = 0", "y = 0", "x ' = 0", "'x = 0", "x + 1 = 0", "x + 0 = 0", "01 + x = 0", "-0 = 0",
                     "00 = 0", " x = 0", "x = 0 ", "x  = 0", "+x = 0", "x - -x' = 0", "2x = 0", "x*2 = 0", "x,x' = 0",
                     "row a c", "row a", "x = 0 = 0", "= 0", " = 0", "X = 0", "x\t= 0"):
            text = "numbers x\nplaces a b\nrow a b\nx = 0\n" + wish
            self.check(text, 4)
            self.check(text + "\nrow b b", 4)
            self.check(text + "\nnonsense", 4)

    def test_more_than_the_mosts(self):
        head = "numbers x\nplaces a"
        self.assertEqual(len(read_program(head + "\nrow a a" * 10)[2]), 10)
        self.check(head + "\nrow a a" * 11, 12)
        self.check(head + "\nrow a a" * 11 + "\nx = 0", 12)
        self.check(head + "\nrow a a\nx = 0" * 11, 22)
        self.assertEqual(len(read_program(head + "\nrow a a" + "\nx = 0" * 12)[2][0][2]), 12)
        self.check(head + "\nrow a a" + "\nx = 0" * 13, 15)
        self.check(head + "\nrow a a" + "\nx = 0" * 13 + "\nrow a a", 15)
        self.check(head + "\nrow a a" * 10 + "\nx = 0" * 13, 24)

    def test_line_feeds_and_other_ends_of_rows(self):
        for text, row in (("\nnumbers x\nplaces a", 0), ("numbers x\n\nplaces a", 1), ("numbers x\nplaces a\n", 2),
                          ("numbers x\nplaces a\n\n", 2), ("numbers x\nplaces a\nrow a a\n", 3), ("numbers x\n", 1), ("\n", 0),
                          ("numbers x; places a", 0), ("numbers x\n; places a", 1)):
            self.check(text, row)

    def test_texts_bent_in_all_ways(self):
        dice = random.Random(12)
        told = {}
        for turn in range(2500):
            texts = shown_program(some_program(dice, most_rows=4, most_wishes=3)).split("\n")
            at = dice.randrange(len(texts))
            other = dice.randrange(len(texts))
            way = turn % 6
            if way == 0:
                del texts[at]
            elif way == 1:
                texts.insert(other, texts[at])
            elif way == 2:
                texts[at], texts[other] = texts[other], texts[at]
            elif way == 3:
                spot = dice.randrange(len(texts[at]) + 1)
                texts[at] = texts[at][:spot] + dice.choice(" x'ay019*+-=>\t;") + texts[at][spot:]
            elif way == 4:
                spot = dice.randrange(len(texts[at]))
                texts[at] = texts[at][:spot] + texts[at][spot + 1:]
            else:
                texts = "\n".join(texts)[:dice.randrange(60)].split("\n")
            text = "\n".join(texts)
            row = first_wrong(text)
            told[way, row is None] = told.get((way, row is None), 0) + 1
            if row is None:
                self.assertEqual(shown_program(read_program(text)), text)
            else:
                self.check(text, row)
        # exchanged rows and cut texts often are programs' texts again
        self.assertGreater(min(told[way, False] for way in range(6)), 30)


if __name__ == "__main__":
    unittest.main()
