"""The interface's section downweigh/errors.py."""

import unittest

from downweigh import errors
from tests.things import Sour

UNDER = {
    "WeighError": ValueError,
    "NoNumber": errors.WeighError, "NoText": errors.WeighError, "NoProgram": errors.WeighError,
    "NoOrder": errors.WeighError, "Unlike": errors.WeighError, "NoStart": errors.WeighError,
    "NoOffer": errors.WeighError, "NoRanks": errors.WeighError, "NoRound": errors.WeighError,
    "NoRing": errors.WeighError, "NoCode": errors.WeighError, "NoNumbers": errors.WeighError,
    "NoWishes": errors.WeighError, "NoLine": errors.WeighError,
    "NoRow": IndexError, "NoPlace": IndexError, "NoStep": LookupError, "NoName": KeyError,
    "ByNought": ZeroDivisionError, "TooMany": OverflowError, "Full": OverflowError,
    "Bare": RuntimeError, "NoDeed": RuntimeError,
}
FIELDS = {
    "NoNumber": ("thing",), "NoText": ("row",), "NoProgram": ("part", "number"),
    "NoRow": ("row",), "NoPlace": ("place",), "NoStep": ("row",), "NoName": ("name",),
}


def made(name):
    kind = getattr(errors, name)
    fields = FIELDS.get(name)
    return kind("words") if fields is None else kind(*fields)


class Errors(unittest.TestCase):
    def test_each_stands_straight_under_its_class(self):
        for name, base in UNDER.items():
            self.assertEqual(getattr(errors, name).__bases__, (base,), name)

    def test_there_are_no_others(self):
        told = [name for name, kind in vars(errors).items() if isinstance(kind, type)]
        self.assertEqual(sorted(told), sorted(UNDER))

    def test_none_is_caught_as_another_one(self):
        for name in UNDER:
            for other in UNDER:
                if name == other or (other == "WeighError" and UNDER[name] is errors.WeighError):
                    continue
                self.assertNotIsInstance(made(name), getattr(errors, other), (name, other))

    def test_those_elsewhere_are_no_weigh_errors_nor_value_errors(self):
        for name, base in UNDER.items():
            if base not in (ValueError, errors.WeighError):
                self.assertNotIsInstance(made(name), ValueError, name)

    def test_each_is_caught_by_what_it_is_under(self):
        for name, base in UNDER.items():
            with self.assertRaises(base):
                raise made(name)

    def test_fields_by_place_and_by_name_are_as_handed_in(self):
        for name, fields in FIELDS.items():
            kind = getattr(errors, name)
            things = [[object(), [field]] for field in fields]
            for told in (kind(*things), kind(**dict(zip(fields, things)))):
                for field, thing in zip(fields, things):
                    self.assertIs(getattr(told, field), thing, (name, field))

    def test_fields_may_be_anything_and_it_can_still_be_written(self):
        for name, fields in FIELDS.items():
            kind = getattr(errors, name)
            for thing in (None, True, 1.5, 10 ** 5000, [[]], Sour()):
                told = kind(*[thing for field in fields])
                self.assertIs(getattr(told, fields[-1]), thing)
                self.assertIsInstance(str(told), str)
                self.assertIsInstance(repr(told), str)

    def test_two_fields_are_kept_apart(self):
        told = errors.NoProgram("rows", 3)
        self.assertEqual((told.part, told.number), ("rows", 3))

    def test_the_others_are_made_of_a_text(self):
        for name in UNDER:
            if name not in FIELDS:
                self.assertEqual(getattr(errors, name)("some words").args, ("some words",), name)


if __name__ == "__main__":
    unittest.main()
