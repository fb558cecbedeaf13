"""Point [4]: fractions."""

import unittest
from fractions import Fraction

from downweigh.errors import ByNought, NoNumber, NoText
from downweigh.numbers import (
    fraction, is_below, is_fraction, is_whole, minus, over, plus, read_fraction, shown, times, whole_part,
)
from tests.things import both_ways, odd_things

LONG = 10 ** 59 + 7
SAMPLES = [
    (0, 1), (1, 1), (-1, 1), (2, 1), (1, 2), (-1, 2), (3, 4), (-7, 3), (22, 7), (100, 9), (-100, 9),
    (LONG, 3), (3, LONG), (-LONG, LONG + 1), (10 ** 60 - 1, 10 ** 59),
]


def as_python(one):
    return Fraction(one[0], one[1])


class Making(unittest.TestCase):
    def test_lowest_terms_and_signs(self):
        for top, bottom, told in [
            (6, 4, (3, 2)), (-6, 4, (-3, 2)), (6, -4, (-3, 2)), (-6, -4, (3, 2)), (0, 5, (0, 1)), (0, -5, (0, 1)),
            (5, 1, (5, 1)), (5, -1, (-5, 1)), (7, 7, (1, 1)), (1, 3, (1, 3)), (12, 18, (2, 3)), (0, 1, (0, 1)),
        ]:
            self.assertEqual(both_ways(self, fraction, top=top, bottom=bottom), told)

    def test_the_second_number_may_be_left_out(self):
        for top in (0, 5, -5, LONG):
            self.assertEqual(fraction(top), (top, 1))
            self.assertEqual(fraction(top=top), (top, 1))

    def test_sixty_figures(self):
        shared = 10 ** 20 + 39
        self.assertEqual(fraction(2 * shared ** 2, -3 * shared), (-2 * shared, 3))
        self.assertEqual(fraction(LONG * 4, LONG * 6), (2, 3))

    def test_what_it_tells_is_a_tuple_of_wholes(self):
        told = fraction(6, 4)
        self.assertIs(type(told), tuple)
        self.assertEqual([type(part) for part in told], [int, int])

    def test_anything_else_is_refused(self):
        for thing in odd_things():
            for top, bottom in ((thing, 1), (1, thing), (thing, 0), (thing, thing)):
                with self.assertRaises(NoNumber) as caught:
                    fraction(top, bottom)
                self.assertIs(caught.exception.thing, thing)
            with self.assertRaises(NoNumber) as caught:
                fraction(thing)
            self.assertIs(caught.exception.thing, thing)

    def test_the_first_that_is_none_is_told(self):
        for top, bottom, thing in ((True, False, True), (None, 0, None), (1, 0, 0), (0, 0, 0), ("x", "y", "x"),
                                   (3, False, False), (3, True, True), ((1, 2), 2, (1, 2))):
            with self.assertRaises(NoNumber) as caught:
                fraction(top, bottom)
            self.assertIs(caught.exception.thing, thing)


class Kinds(unittest.TestCase):
    def test_wholes(self):
        for thing in (0, 1, -1, LONG, -LONG, 10 ** 5000):
            self.assertIs(is_whole(thing=thing), True)

    def test_no_wholes(self):
        for thing in odd_things():
            self.assertIs(is_whole(thing), False)

    def test_fractions(self):
        for thing in SAMPLES:
            self.assertIs(is_fraction(thing=thing), True)

    def test_no_fractions(self):
        for thing in [*odd_things(), 0, 1, [1, 2], (2, 4), (0, 2), (1, 0), (0, 0), (1, -1), (-1, -2), (0, -1), (2, 2),
                      (True, 1), (1, True), (False, 1), (1, False), (1.0, 2), (1, 2, 3), (1,), (LONG * 2, LONG)]:
            self.assertIs(is_fraction(thing), False)


class Reckoning(unittest.TestCase):
    def test_like_pythons_own(self):
        ways = ((plus, lambda a, b: a + b), (minus, lambda a, b: a - b), (times, lambda a, b: a * b))
        for one in SAMPLES:
            for other in SAMPLES:
                for call, own in ways:
                    told = both_ways(self, call, one=one, other=other)
                    self.assertTrue(is_fraction(told))
                    self.assertEqual(as_python(told), own(as_python(one), as_python(other)))
                told = both_ways(self, is_below, one=one, other=other)
                self.assertIs(told, as_python(one) < as_python(other))

    def test_quotients(self):
        for one in SAMPLES:
            for other in SAMPLES:
                if other == (0, 1):
                    continue
                told = both_ways(self, over, one=one, other=other)
                self.assertTrue(is_fraction(told))
                self.assertEqual(as_python(told), as_python(one) / as_python(other))

    def test_quotients_by_nought(self):
        for one in SAMPLES:
            with self.assertRaises(ByNought):
                over(one, (0, 1))

    def test_whole_parts(self):
        for one, told in (((7, 2), 3), ((-7, 2), -4), ((-1, 3), -1), ((1, 3), 0), ((4, 1), 4), ((-4, 1), -4),
                          ((0, 1), 0), ((-LONG, 1), -LONG), ((-1, LONG), -1)):
            self.assertEqual(whole_part(one=one), told)

    def test_below_is_not_alike(self):
        self.assertIs(is_below((1, 2), (1, 2)), False)
        self.assertIs(is_below((-1, 2), (1, 2)), True)
        self.assertIs(is_below((1, 3), (-1, 2)), False)


class Texts(unittest.TestCase):
    def test_written(self):
        for one, text in (((0, 1), "0"), ((5, 1), "5"), ((-5, 1), "-5"), ((1, 2), "1/2"), ((-7, 3), "-7/3"),
                          ((10, 1), "10"), ((100, 99), "100/99"), ((-LONG, 3), f"-{LONG}/3")):
            self.assertEqual(shown(one=one), text)
            self.assertEqual(read_fraction(text=text), one)

    def test_written_and_read_back(self):
        for one in SAMPLES:
            self.assertEqual(read_fraction(shown(one)), one)

    def test_told_numbers_of_very_many_figures(self):
        # Python's own str and int go only so far
        for figures in (59, 60, 61, 119, 120, 121, 4299, 4300, 4301, 9000):
            text = "1" + "0" * (figures - 2) + "3"
            one = read_fraction(f"-{text}/{text[:-1]}7")
            self.assertEqual(one, (-10 ** (figures - 1) - 3, 10 ** (figures - 1) + 7))
            self.assertEqual(shown(one), f"-{text}/{text[:-1]}7")
        long = times((7 ** 4000, 1), (7 ** 4000, 2))
        self.assertEqual(read_fraction(shown(long)), long)

    def test_what_writes_none(self):
        for text in ("", " ", "-", "+", "/", "+1", "-0", "00", "01", "-01", "1/1", "2/4", "0/1", "0/2", "1/0", "-1/1",
                     "1/-2", "1/02", "01/2", "1/", "/2", "1/2/3", " 1", "1 ", "1 /2", "1/ 2", "1\n", "\n1", "1/2\n",
                     "1.5", "1e3", "0x1", "1_000", "1,5", "--1", "-/2", "-1/", "a", "1a", "None", "1\t", "-0/3",
                     "\u0661", "\u00b2", "1/\u0663", "\uff11"):
            with self.assertRaises(NoText, msg=repr(text)) as caught:
                read_fraction(text)
            self.assertEqual(caught.exception.row, 0)

    def test_what_is_no_text(self):
        for thing in odd_things():
            if isinstance(thing, str) and thing == "1":
                continue
            with self.assertRaises(NoText) as caught:
                read_fraction(thing)
            self.assertEqual(caught.exception.row, 0)
        for thing in (0, 5, (1, 2), ["1"], b"1/2"):
            with self.assertRaises(NoText):
                read_fraction(thing)


if __name__ == "__main__":
    unittest.main()
