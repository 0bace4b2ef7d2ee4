"""[3] and the interface's errors; the bounds."""

import unittest

from aheadbook import errors
from aheadbook.bounds import MOST_HANDS

ASKED = ("asked",)
TOLD = {
    ValueError: {
        "NoHands": ASKED,
        "NoRow": ASKED,
        "NoLet": ASKED,
        "NoWeb": ASKED,
        "NoRing": ASKED,
        "NoBreach": ASKED,
        "NoNames": ASKED,
        "NoName": ASKED,
        "BadWorths": ASKED,
        "NoText": ("row",),
        "Knot": ("circle",),
        "Unlike": (),
        "Twice": ("first", "second"),
        "Lacking": ("number",),
        "Torn": ("let",),
    },
    KeyError: {"NoHand": ASKED, "NoHead": ASKED, "NoKept": ASKED},
    IndexError: {"NoPlace": ASKED, "NoNumber": ASKED},
    LookupError: {"Parted": ("pair",), "NoGround": ASKED, "NotTold": ASKED, "NoMore": ("word",)},
    ArithmeticError: {"Unfair": ("breach",), "NotFalling": ("let",), "NotPaid": ("bar",)},
    RuntimeError: {"NotLet": ("at", "why")},
}
WORTHS = [0, None, "ann", ("ann", "bob", ()), ["ann"], {"ann": 1}]


class ErrorsTest(unittest.TestCase):
    def test_there_are_twenty_eight(self):
        self.assertEqual(sum(len(rows) for rows in TOLD.values()), 28)

    def test_each_stands_straight_under_the_error_told(self):
        for base, rows in TOLD.items():
            for name in rows:
                with self.subTest(name=name):
                    made = getattr(errors, name)
                    self.assertEqual(made.__bases__, (base,))
                    self.assertEqual(made.__name__, name)
                    self.assertEqual(made.__module__, "aheadbook.errors")

    def test_each_takes_its_fields_in_order_and_has_them(self):
        for rows in TOLD.values():
            for name, fields in rows.items():
                for start in range(len(WORTHS)):
                    worths = [WORTHS[(start + k) % len(WORTHS)] for k in range(len(fields))]
                    with self.subTest(name=name, worths=worths):
                        error = getattr(errors, name)(*worths)
                        self.assertEqual([getattr(error, field) for field in fields], worths)

    def test_each_takes_its_fields_by_name(self):
        for rows in TOLD.values():
            for name, fields in rows.items():
                with self.subTest(name=name):
                    error = getattr(errors, name)(**dict(zip(fields, WORTHS)))
                    for field, worth in zip(fields, WORTHS):
                        self.assertEqual(getattr(error, field), worth)

    def test_none_takes_fewer_than_its_fields(self):
        for rows in TOLD.values():
            for name, fields in rows.items():
                if fields:
                    with self.subTest(name=name), self.assertRaises(TypeError):
                        getattr(errors, name)(*WORTHS[1:len(fields)])

    def test_each_is_caught_as_the_error_above_it(self):
        for base, rows in TOLD.items():
            for name, fields in rows.items():
                with self.subTest(name=name), self.assertRaises(base):
                    raise getattr(errors, name)(*WORTHS[:len(fields)])


class BoundsTest(unittest.TestCase):
    def test_most_hands(self):
        self.assertEqual(repr(MOST_HANDS), "8")


if __name__ == "__main__":
    unittest.main()
