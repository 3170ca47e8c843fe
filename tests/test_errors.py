"""[24]: the errors."""

import unittest

import notinvain.errors
from notinvain.errors import BadLine, CanNot, NoCell, NoNumber, NoPlace, NothingDone, TooMany, Unfit

KEEPING = ((NoPlace, "place", (0, 1)), (NoCell, "cell", (2,)), (NoNumber, "number", 3), (BadLine, "number", 0))
BARE = (NothingDone, CanNot, TooMany, Unfit)
UNDER_LOOKUP = (NoPlace, NoCell, NoNumber, NothingDone)
UNDER_VALUE = (BadLine, CanNot, TooMany, Unfit)


class Errors(unittest.TestCase):

    def test_attribute_is_kept(self):
        for kind, name, value in KEEPING:
            self.assertEqual(vars(kind(value)), {name: value})
            self.assertEqual(vars(kind(**{name: value})), {name: value})

    def test_attribute_is_kept_when_raised(self):
        for kind, name, value in KEEPING:
            with self.assertRaises(kind) as caught:
                raise kind(value)
            self.assertEqual(getattr(caught.exception, name), value)

    def test_number_of_values(self):
        for kind, _, value in KEEPING:
            self.assertRaises(TypeError, kind)
            self.assertRaises(TypeError, kind, value, value)
        for kind in BARE:
            self.assertEqual(vars(kind()), {})
            self.assertRaises(TypeError, kind, 1)

    def test_class_above(self):
        for kind in UNDER_LOOKUP:
            self.assertEqual(kind.__bases__, (LookupError,))
            self.assertFalse(issubclass(kind, (ValueError, KeyError, IndexError)))
        for kind in UNDER_VALUE:
            self.assertEqual(kind.__bases__, (ValueError,))
            self.assertFalse(issubclass(kind, LookupError))

    def test_under_no_other_one(self):
        kinds = UNDER_LOOKUP + UNDER_VALUE
        self.assertEqual(len(set(kinds)), 8)
        for kind in kinds:
            self.assertEqual([other for other in kinds if issubclass(kind, other)], [kind])

    def test_defined_in_that_file(self):
        for kind in UNDER_LOOKUP + UNDER_VALUE:
            self.assertEqual(kind.__module__, "notinvain.errors")
            self.assertIs(getattr(notinvain.errors, kind.__name__), kind)


if __name__ == "__main__":
    unittest.main()
