import unittest

from layworld import errors
from layworld.errors import (
    BadText, LayError, NoLaying, NoRow, NoRule, NoSentence, NoShare, NoWish, NoWorld,
)

MADE = (
    (NoRule, {"word": "form"}),
    (NoWorld, {"point": 4}),
    (BadText, {"row": 2}),
    (NoLaying, {"one": 3, "other": 5}),
    (NoShare, {}),
    (NoWish, {}),
    (NoSentence, {"row": 7}),
    (NoRow, {}),
)


class Errors(unittest.TestCase):
    def test_fields(self):
        for kind, fields in MADE:
            for error in (kind(*fields.values()), kind(**fields)):
                with self.subTest(kind=kind.__name__):
                    self.assertEqual(vars(error), fields)

    def test_made_of_nothing_else(self):
        for kind, fields in MADE:
            with self.subTest(kind=kind.__name__):
                self.assertRaises(TypeError, kind, *fields.values(), 1)
                if fields:
                    self.assertRaises(TypeError, kind)

    def test_under_lay_error_and_none_under_another(self):
        self.assertTrue(issubclass(LayError, ValueError))
        for kind, fields in MADE:
            for other, others in MADE:
                with self.subTest(kind=kind.__name__, other=other.__name__):
                    self.assertEqual(issubclass(kind, other), kind is other)
            self.assertTrue(issubclass(kind, LayError))
            self.assertFalse(issubclass(LayError, kind))

    def test_raised_and_taken(self):
        for kind, fields in MADE:
            for taken in (kind, LayError, ValueError):
                with self.assertRaises(taken) as caught:
                    raise kind(*fields.values())
                self.assertEqual(vars(caught.exception), fields)

    def test_all_are_here(self):
        here = [name for name, thing in vars(errors).items() if isinstance(thing, type)]
        self.assertEqual(sorted(here), sorted(["LayError"] + [kind.__name__ for kind, fields in MADE]))


if __name__ == "__main__":
    unittest.main()
