"""Points [34] and [35]: the desk."""

import random
import unittest

from downweigh import errors
from downweigh.bounds import most_steps
from downweigh.codetexts import read_code, shown_code
from downweigh.desk import Desk
from downweigh.making import made
from downweigh.numbers import fraction, shown
from downweigh.progtexts import read_program, shown_program
from downweigh.rounds import round_met
from downweigh.settling import sets_of, settled
from tests.examples import SETTLED
from tests.somecodes import CODES, some_code
from tests.things import Sour, odd_things, refused, some_program

DOWN = "numbers x; places a; row a a; -1 + x >= 0; 1 - x + x' = 0"
UP = "numbers x; places a b; row a b; row b b; x >= 0; 1 + x - x' = 0; row a a; -1 = 0"
TWO = "numbers x y; places a; row a a; x >= 0; 1 - x + x' = 0; row a a; x >= 0; y >= 0; -x + x' = 0; 1 - y + y' = 0"


def on_a_row(text):
    return text.replace("\n", "; ")


def code_on_a_row(text):
    return text.replace(" ; ", " & ").replace("\n", "; ")


class Case(unittest.TestCase):
    def setUp(self):
        self.desk = Desk()

    def say(self, row, wanted):
        told = self.desk.say(row)
        self.assertIs(type(told), str)
        self.assertEqual(told, wanted, row)

    def wrong(self, kind, row):
        return refused(self, kind, self.desk.say, row)


class Rows(Case):
    def test_program(self):
        self.say("program p " + DOWN, "ok")
        self.say("show p", DOWN)
        self.assertEqual(Desk().say(row="program p " + DOWN), "ok")
        self.say("program abcdefgh numbers x; places a", "ok")
        self.say("show abcdefgh", "numbers x; places a")
        for one, sets in SETTLED.values():
            self.say("program p " + on_a_row(shown_program(one)), "ok")
            self.say("show p", on_a_row(shown_program(one)))

    def test_code(self):
        self.say("code c x,y round x >= 0 & y >= 0; put x = -1 + x; end", "ok")
        self.say("show c", "numbers x y; places a b c; row a c; -x + x' = 0; -y + y' = 0; row c c; x >= 0; y >= 0; 1 - x + x' = 0; -y + y' = 0; "
                           "row c b; -x + x' = 0; -y + y' = 0")
        for text, code in CODES.items():
            self.say("code c x,y " + code_on_a_row(text), "ok")
            self.say("show c", on_a_row(shown_program(made(["x", "y"], code))))
        # a code without parts is the text without signs
        self.say("code c x ", "ok")
        self.say("show c", "numbers x; places a b; row a b; -x + x' = 0")
        self.say("code c x,yy,abcdef want", "ok")
        self.say("code c want want want = 0 & 1 - want >= 0", "ok")

    def test_names(self):
        self.say("names", "-")
        for name, wanted in (("q", "q"), ("b", "b q"), ("abc", "abc b q"), ("b", "abc b q"), ("names", "abc b names q")):
            self.say(f"program {name} " + DOWN, "ok")
            self.say("names", wanted)
        self.say("drop b", "ok")
        self.say("names", "abc names q")

    def test_in_the_stead_of_another_one(self):
        self.say("program p " + DOWN, "ok")
        self.say("program p " + UP, "ok")
        self.say("show p", UP)
        self.say("code p x read x", "ok")
        self.say("show p", "numbers x; places a b; row a b")
        self.say("names", "p")

    def test_drop(self):
        self.say("program p " + DOWN, "ok")
        self.say("drop p", "ok")
        self.say("names", "-")
        self.assertEqual(self.wrong(errors.NoName, "drop p").name, "p")

    def test_settle(self):
        for text, settle, ranks, never, ring in (
            (DOWN, "ends 1", "0", "-", "-"), (UP, "left 1", "0", "2", "1"), (TWO, "ends 2", "0 1", "-", "-"),
            ("numbers x; places a", "ends 0", "-", "-", "-"), ("numbers x; places a; row a a", "left 0", "-", "-", "0"),
            ("numbers x; places a; row a a; -1 >= 0; row a a; -1 = 0", "ends 0", "-", "0 1", "-"),
            ("numbers x; places a b; row a b; row b a; row a b", "left 0 1 2", "-", "-", "0 1"),
            ("numbers x; places a b c; row a b; row b c; row a c", "ends 1", "0,1,2", "-", "-"),
            ("numbers x; places a b c; row c a; row b c; row a b", "left 0 1 2", "-", "-", "0 2 1"),
        ):
            self.say("program p " + text, "ok")
            self.say("settle p", settle)
            self.say("ranks p", ranks)
            self.say("never p", never)
            self.say("round p", ring)

    def test_most(self):
        self.say("program p " + DOWN, "ok")
        for numbers in ("0", "5", "9/2", "-3", "-1/2"):
            x = [int(part) for part in (numbers + "/1").split("/")[:2]]
            one = read_program(DOWN.replace("; ", "\n"))
            word, never, ranks, mixtures = settled(one)
            self.say("most p a " + numbers, str(most_steps(one, never, ranks, place=0, numbers=[fraction(*x)])))
        self.say("program p " + TWO, "ok")
        self.say("most p a 1,-2/3", "-")
        self.say("program p numbers x y z; places a b", "ok")
        self.say("most p b 1,2,3", "0")
        # a number that Python by itself does not write
        long = "1" + "0" * 1000
        self.say("program p " + DOWN, "ok")
        self.assertEqual(len(self.desk.say(f"most p a {long}")), 1001)

    def test_most_by_the_place_of_that_name(self):
        text = "numbers x; places far near; row far near; row near near; x >= 0; 2 - x + x' = 0"
        self.say("program p " + text, "ok")
        self.say("most p near 5", "-")
        text = "numbers x; places far near; row far near; x >= 0; -x + x' = 0; row near near; x >= 0; 2 - x + x' = 0"
        self.say("program p " + text, "ok")
        near, far = int(self.desk.say("most p near 5")), int(self.desk.say("most p far 5"))
        self.assertGreaterEqual(near, 3)
        self.assertGreaterEqual(far, 4)
        one = read_program(text.replace("; ", "\n"))
        word, never, ranks, mixtures = settled(one)
        self.assertEqual([far, near], [most_steps(one, never, ranks, place=place, numbers=[(5, 1)]) for place in (0, 1)])

    def test_undo(self):
        self.wrong(errors.NoDeed, "undo")
        self.say("program p " + DOWN, "ok")
        self.say("program p " + UP, "ok")
        self.say("code q x read x", "ok")
        self.say("drop p", "ok")
        self.say("code q x ", "ok")
        for names, shows in (("q", {"q": "numbers x; places a b; row a b"}), ("p q", {"p": UP}), ("p", {"p": UP}), ("p", {"p": DOWN}), ("-", {})):
            self.say("undo", "ok")
            self.say("names", names)
            for name, text in shows.items():
                self.say("show " + name, text)
        self.wrong(errors.NoDeed, "undo")
        # what was undone is no deed more
        self.say("program p " + DOWN, "ok")
        self.say("undo", "ok")
        self.wrong(errors.NoDeed, "undo")

    def test_two_desks_apart(self):
        other = Desk()
        self.say("program p " + DOWN, "ok")
        self.assertEqual(other.say("names"), "-")
        refused(self, errors.NoDeed, other.say, "undo")
        other.say("program q " + UP)
        self.say("names", "p")
        self.assertEqual(other.say("names"), "q")

    def test_by_dice(self):
        dice = random.Random(34)
        for turn in range(60):
            one = some_program(dice, most_rows=5, most_wishes=4)
            if turn % 3 == 0:
                names = ["x", "y", "z"][:dice.randint(1, 3)]
                code = some_code(dice, len(names))
                text = code_on_a_row(shown_code(names, code))
                try:
                    one = made(names, code)
                except errors.TooMany:
                    self.wrong(errors.TooMany, f"code p {','.join(names)} {text}")
                    continue
                self.say(f"code p {','.join(names)} {text}", "ok")
            else:
                self.say("program p " + on_a_row(shown_program(one)), "ok")
            never, ranks, left = sets_of(one)
            self.say("show p", on_a_row(shown_program(one)))
            self.say("settle p", "left " + " ".join(map(str, left)) if left else f"ends {len(ranks)}")
            self.say("ranks p", " ".join(",".join(map(str, rows)) for rows in ranks) or "-")
            self.say("never p", " ".join(map(str, never)) or "-")
            met = round_met(one)
            self.say("round p", " ".join(map(str, met[0])) if met else "-")
            numbers = [fraction(dice.randint(-5, 5), dice.randint(1, 3)) for name in one[0]]
            row = f"most p {one[1][-1]} {','.join(map(shown, numbers))}"
            if left:
                self.wrong(errors.NoRanks, row)
            else:
                word, papers, ranks, mixtures = settled(one)
                told = most_steps(one, papers, ranks, place=len(one[1]) - 1, numbers=numbers)
                self.say(row, "-" if told is None else str(told))


class Refused(Case):
    def setUp(self):
        self.desk = Desk()
        self.say("program p " + DOWN, "ok")
        self.say("program q " + TWO, "ok")

    def tearDown(self):
        """What is refused changes nothing."""
        self.say("names", "p q")
        self.say("show p", DOWN)
        self.say("show q", TWO)
        self.say("undo", "ok")
        self.say("names", "p")
        self.say("undo", "ok")
        self.wrong(errors.NoDeed, "undo")

    def test_what_is_no_text(self):
        for thing in odd_things():
            self.wrong(errors.NoLine, thing)
        for thing in (b"names", ["names"], ("names",), None, Sour()):
            self.wrong(errors.NoLine, thing)

    def test_line_feeds(self):
        for row in ("names\n", "\nnames", "show p\n", "program p numbers x\nplaces a", "code c x read x\nread x", "show\np", "\n"):
            self.wrong(errors.NoLine, row)

    def test_words(self):
        for row in ("", " ", "name", "Names", "names ", " names", "names p", "names  ", "undo ", "undo p", "undo 1", " undo", "UNDO", "drop", "drop ", "drop p ",
                    "drop p q", "drop  p", " drop p", "show", "show ", "show p ", "show p q", "show  p", "settle", "settle p p", "settle p ", "settle  p", "ranks",
                    "ranks p 0", "ranks ", "never", "never p 0", "never p ", "round", "round p 6", "round p ", "most", "most p", "most p a", "most p a ",
                    "most p a 1 ", "most p a 1 2", "most p  a 1", "most p  1", "most p a  1", "most  p a 1", "program", "program p", "program ", "program  p " + DOWN,
                    "program  ", "code", "code c", "code c x", "code c ", "code  c x read x", "code c  x read x", "code  x read x", "code c  ", "program\tp " + DOWN,
                    "names\t", "show\tp", "keep p", "ok", "-", "p", "0", "row a b", "rank p", "settled p", "show p;", "names;"):
            self.wrong(errors.NoLine, row)

    def test_names_that_are_none(self):
        for name in ("P", "abcdefghi", "p1", "1", "p,q", "p-", "'p'", "p'", ".", "-", "*"):
            for row in (f"program {name} " + DOWN, f"code {name} x read x", f"drop {name}", f"show {name}", f"settle {name}", f"ranks {name}", f"never {name}",
                        f"round {name}", f"most {name} a 1"):
                self.wrong(errors.NoLine, row)

    def test_names_by_which_nothing_is_kept(self):
        for name in ("x", "pq", "abcdefgh", "names"):
            for row in (f"drop {name}", f"show {name}", f"settle {name}", f"ranks {name}", f"never {name}", f"round {name}", f"most {name} a 1",
                        f"most {name} nowhere 1,2,3,4"):
                told = self.wrong(errors.NoName, row)
                self.assertEqual(told.name, name)

    def test_numbers_that_are_none(self):
        for names in ("X", "x,x", "x,y,x", "x,y,z,w", "x,", ",x", ",", "x,,y", "abcdefg", "x1", "x;y", "1", "x'", "x,y,z,z"):
            self.wrong(errors.NoLine, f"code c {names} read x")
            # ahead of a text that writes nothing
            self.wrong(errors.NoLine, f"code c {names} nothing")
        for numbers in ("x", "1,", ",1", "1,,2", "01", "+1", "1.0", "2/4", "1/0", "-0", "1/1", "1;2", "--1", ",", "a", "1/-2", "1,2,3,x"):
            self.wrong(errors.NoLine, f"most p a {numbers}")
            # ahead of a name by which nothing is kept
            self.wrong(errors.NoLine, f"most nobody a {numbers}")

    def test_texts_that_write_nothing(self):
        for row, text in ((0, ""), (0, " "), (0, "numbers"), (1, "numbers x"), (1, "numbers x; places"), (2, "numbers x; places a; row a b"),
                          (3, "numbers x; places a; row a a; x > 0"), (2, "numbers x; places a; "), (0, "numbers x;places a"), (0, "numbers x ; places a"),
                          (0, " numbers x; places a"), (0, "numbers  x; places a"), (3, "numbers x; places a; row a a; x >= 0 & x >= 0"), (1, "numbers x; "),
                          (3, "numbers x; places a; row a a; x >= 0 ; x >= 0"), (1, "numbers x; places a ")):
            self.assertEqual(self.wrong(errors.NoText, "program p " + text).row, row, text)
        for row, text in ((0, " "), (0, "nothing"), (1, "read x; "), (1, "read x; read z"), (1, "either"), (2, "round; read x"), (0, "end"), (0, "read x;read x"),
                          (0, "want x >= 0 ; x >= 0"), (0, "want x >= 0&x >= 0"), (0, "want x >= 0 & "), (0, "want x >= 0; x >= 0".replace("; ", " ;")),
                          (1, "want x >= 0; x >= 0"), (0, "read x & read x"), (0, "put x = 1 & 2"), (3, "round; round; round; round; end; end; end; end"),
                          (0, " read x"), (0, "; read x")):
            self.assertEqual(self.wrong(errors.NoText, "code p x " + text).row, row, text)

    def test_too_many(self):
        self.wrong(errors.TooMany, "code p x " + "; ".join(["read x"] * 6))
        self.wrong(errors.TooMany, "code c x " + "; ".join(["either; or; or; or; end"] * 3))
        self.assertEqual(self.wrong(errors.NoText, "code p x " + "; ".join(["read x"] * 9)).row, 8)

    def test_the_order_at_most(self):
        self.assertEqual(self.wrong(errors.NoPlace, "most p b 1").place, "b")
        for place in ("b", "A", "aa", "0", "a,a", "x", "abcdefghijk", "-"):
            self.assertEqual(self.wrong(errors.NoPlace, f"most p {place} 1,2").place, place)
        for numbers in ("1,2", "1,2,3,4,5", "1/2,1/2"):
            self.wrong(errors.NoNumbers, f"most p a {numbers}")
        self.wrong(errors.NoNumbers, "most q a 1")
        self.say("program l numbers x; places a; row a a", "ok")
        self.assertEqual(self.wrong(errors.NoPlace, "most l b 1,2").place, "b")
        self.wrong(errors.NoNumbers, "most l a 1,2")
        self.wrong(errors.NoRanks, "most l a 1")
        self.say("undo", "ok")


class Codes(Case):
    def test_codes_read_as_they_are_written(self):
        dice = random.Random(35)
        for turn in range(80):
            names = ["x", "y"]
            code = some_code(dice, 2)
            text = shown_code(names, code)
            self.assertEqual(read_code(names, text), code)
            # what stands between wishes, and between rows, is told otherwise on a row of the desk alone
            if " ; " in text:
                self.wrong(errors.NoText, "code c x,y " + text.replace("\n", "; "))


if __name__ == "__main__":
    unittest.main()
