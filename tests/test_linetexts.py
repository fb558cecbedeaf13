"""Point [7]: lines and wishes written and read."""

import itertools
import unittest

from downweigh.errors import NoText
from downweigh.linetexts import read_line, read_wish, shown_line, shown_wish
from tests.things import both_ways, kept_as_is, odd_things

LONG = 10 ** 60 - 1
XY = ["x", "y"]
ALIKE = ["x", "xx", "xxy", "xxxxxx", "xy"]
LINES = (
    ([], [0], "0"), ([], [5], "5"), ([], [-5], "-5"),
    (XY, [3, -2, 1], "3 - 2*x + y"), (XY, [0, 0, 0], "0"), (XY, [-3, 0, 0], "-3"), (XY, [0, 1, 0], "x"),
    (XY, [0, -1, 0], "-x"), (XY, [0, 0, 1], "y"), (XY, [0, 1, 1], "x + y"), (XY, [0, -1, -1], "-x - y"),
    (XY, [1, 1, -1], "1 + x - y"), (XY, [-1, -1, 0], "-1 - x"), (XY, [0, 2, -3], "2*x - 3*y"),
    (XY, [0, -2, 0], "-2*x"), (XY, [10, 0, 10], "10 + 10*y"), (XY, [-LONG, LONG, -LONG], f"-{LONG} + {LONG}*x - {LONG}*y"),
    (ALIKE, [0, 1, 1, 1, 1, 1], "x + xx + xxy + xxxxxx + xy"), (ALIKE, [0, 0, -2, 0, 0, 1], "-2*xx + xy"),
    (["b", "a"], [0, 1, 1], "b + a"),
)
NO_LINES = (
    "", " ", "1*x", "0*x", "x + 0", "0 + x", "+ x", "+x", "- x", "x +", "x -", "x + ", " x", "x ", "x  + y", "x +  y",
    "x+y", "x + -y", "x - -y", "-+x", "--x", "y + x", "x + 3", "x + x", "2*x + x", "z", "2*z", "x*2", "2 * x", "2*",
    "*x", "x*", "2*3", "2x", "x + y + x", "-0", "00", "01", "02*x", "-1*x", "x - 1*y", "1 + 2", "0 - x", "x - 0*y",
    ">= 1", "= 0", "x = 0", "x >= 0", "x\n", "\nx", "x\n+ y", "x\t+ y", "X", "xx", "x'", "3 - 2*x + y\n", "1/2", "1.0",
    "3 -2*x + y", "3 - 2*x +y", "+3", "3 - 2*x + y + ", "3 * x", "0x", "None", "-", "+", "*", "x y", "x , y",
)


class Lines(unittest.TestCase):
    def test_written_and_read(self):
        for names, line, text in LINES:
            self.assertEqual(both_ways(self, shown_line, names=names, line=line), text)
            self.assertEqual(both_ways(self, read_line, names=names, text=text), line)

    def test_all_small_ones_are_read_back_and_written_unlike(self):
        texts = {}
        for line in itertools.product(range(-2, 3), repeat=4):
            text = shown_line(["a", "ab", "b"], list(line))
            self.assertEqual(read_line(["a", "ab", "b"], text), list(line))
            self.assertNotIn(text, texts)
            texts[text] = line

    def test_all_short_texts_are_refused_or_written_so(self):
        for size in range(1, 6):
            for signs in itertools.product("x 10*-+", repeat=size):
                text = "".join(signs)
                try:
                    line = read_line(["x"], text)
                except NoText:
                    continue
                self.assertEqual(shown_line(["x"], line), text)

    def test_what_writes_none(self):
        for text in NO_LINES:
            with self.assertRaises(NoText, msg=repr(text)) as caught:
                read_line(XY, text)
            self.assertEqual(caught.exception.row, 0)

    def test_without_names(self):
        for text in ("x", "1*", "*", "0*", "", "+", "3 + x"):
            with self.assertRaises(NoText):
                read_line([], text)

    def test_what_is_no_text(self):
        for thing in odd_things():
            if isinstance(thing, str) and thing == "1":
                continue
            for call in (read_line, read_wish):
                with self.assertRaises(NoText) as caught:
                    call(XY, thing)
                self.assertEqual(caught.exception.row, 0)

    def test_told_lines_of_very_many_figures(self):
        line = [7 ** 6000, -(7 ** 6000), 1]
        self.assertEqual(read_line(XY, shown_line(XY, line)), line)

    def test_the_told_line_is_the_askers_own(self):
        told = kept_as_is(self, read_line, XY, "1 + x")
        told.append(5)
        told[0] = 9
        self.assertEqual(read_line(XY, "1 + x"), [1, 1, 0])
        self.assertEqual(kept_as_is(self, shown_line, XY, [1, 2, 3]), "1 + 2*x + 3*y")


class Wishes(unittest.TestCase):
    def test_written_and_read(self):
        for names, line, text in LINES:
            for word, tail in (("least", " >= 0"), ("just", " = 0")):
                self.assertEqual(both_ways(self, shown_wish, names=names, wish=(word, line)), text + tail)
                self.assertEqual(both_ways(self, read_wish, names=names, text=text + tail), (word, line))

    def test_what_writes_none(self):
        for line in NO_LINES:
            for tail in (" >= 0", " = 0"):
                with self.assertRaises(NoText, msg=repr(line + tail)) as caught:
                    read_wish(XY, line + tail)
                self.assertEqual(caught.exception.row, 0)

    def test_other_tails(self):
        for text in ("", "x", "0", "x >= 1", "x = 1", "x > 0", "x <= 0", "x == 0", "x >=0", "x>= 0", "x =0", "x= 0",
                     "x >= 0 ", "x = 0\n", "x >= 0\n", "x  >= 0", "x  = 0", "x >= 00", "x = -0", "x >= 0 = 0",
                     "x = 0 = 0", "x = 0 >= 0", ">= 0", "= 0", " >= 0", " = 0", ">= 1", "x >= y", "0 >= x", "0 = x"):
            with self.assertRaises(NoText, msg=repr(text)) as caught:
                read_wish(XY, text)
            self.assertEqual(caught.exception.row, 0)

    def test_the_told_wish_is_the_askers_own(self):
        told = kept_as_is(self, read_wish, XY, "1 + x = 0")
        told[1].append(5)
        self.assertEqual(read_wish(XY, "1 + x = 0"), ("just", [1, 1, 0]))
        self.assertEqual(kept_as_is(self, shown_wish, XY, ("least", [1, 2, 3])), "1 + 2*x + 3*y >= 0")


if __name__ == "__main__":
    unittest.main()
