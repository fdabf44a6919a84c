"""The refusals [0.4] and the interface of hammersale/errors.py."""

import unittest

from hammersale import errors

STRAIGHT = (
    "NoLadder", "NoPrice", "NoRung", "NoLot", "NoBids", "NoBuyers", "NoRing", "NoNumber", "NoTerms", "NoParts",
    "NoBuyer", "NoSeller", "NoHour", "NoBid", "There", "NoUndo", "NoText", "NoLine", "NoSale", "TooMany",
)


class ErrorsTest(unittest.TestCase):
    def test_sale_error_stands_under_value_error(self):
        self.assertEqual(errors.SaleError.__bases__, (ValueError,))

    def test_each_stands_straight_under_sale_error(self):
        for name in STRAIGHT:
            self.assertEqual(getattr(errors, name).__bases__, (errors.SaleError,), name)

    def test_each_is_a_class_of_its_own(self):
        classes = [getattr(errors, name) for name in STRAIGHT]
        self.assertEqual(len(set(classes)), 20)
        self.assertEqual([one.__name__ for one in classes], list(STRAIGHT))

    def test_there_are_no_others(self):
        found = [name for name, one in vars(errors).items() if isinstance(one, type)]
        self.assertEqual(sorted(found), sorted(STRAIGHT + ("SaleError",)))

    def test_none_is_caught_as_another(self):
        for name in STRAIGHT:
            error = self.made(name)
            caught = [other for other in STRAIGHT if isinstance(error, getattr(errors, other))]
            self.assertEqual(caught, [name])
            self.assertIsInstance(error, errors.SaleError)
            self.assertIsInstance(error, ValueError)

    def made(self, name):
        if name == "TooMany":
            return errors.TooMany(7, 6)
        return getattr(errors, name)("why")

    def test_too_many_has_its_fields(self):
        error = errors.TooMany(7, 6)
        self.assertEqual((error.many, error.most), (7, 6))

    def test_too_many_needs_both(self):
        for handed in ((), (7,), (7, 6, 5)):
            with self.assertRaises(TypeError):
                errors.TooMany(*handed)


if __name__ == "__main__":
    unittest.main()
