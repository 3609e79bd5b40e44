"""[0.2] and hillrooms/errors.py: what stands under what, and what is kept."""

import unittest

from hillrooms import errors

UNDER_REFUSED = (
    "BadText", "BadProgram", "BadOp", "BadParts", "Unequal", "BadPart", "TooGreat", "TooMany",
    "BadInput", "BadOrder", "NotBranchwise", "BadWay", "BadHeap", "BadCode", "BadCell",
    "BadJoint", "BadRow", "NothingToUndo", "NothingToRedo",
)


class ErrorsTest(unittest.TestCase):

    def test_refused_stands_under_value_error(self):
        self.assertTrue(issubclass(errors.Refused, ValueError))
        self.assertIsNot(errors.Refused, ValueError)

    def test_all_others_stand_under_refused(self):
        for name in UNDER_REFUSED:
            error = getattr(errors, name)
            self.assertTrue(issubclass(error, errors.Refused), name)
            self.assertIsNot(error, errors.Refused, name)

    def test_none_of_the_others_stands_under_another(self):
        for one in UNDER_REFUSED:
            for two in UNDER_REFUSED:
                if one != two:
                    self.assertFalse(issubclass(getattr(errors, one), getattr(errors, two)), (one, two))

    def test_each_is_defined_in_the_module(self):
        for name in UNDER_REFUSED + ("Refused",):
            self.assertEqual("hillrooms.errors", getattr(errors, name).__module__)
            self.assertEqual(name, getattr(errors, name).__name__)

    def test_what_is_kept(self):
        for name in UNDER_REFUSED + ("Refused",):
            for what in (0, -3, 10 ** 40, "xs", "", None, (1, 0), ((), "a")):
                self.assertEqual(what, getattr(errors, name)(what).what)
                self.assertEqual(what, getattr(errors, name)(what=what).what)

    def test_what_is_kept_of_a_raised_one(self):
        for name in UNDER_REFUSED + ("Refused",):
            with self.assertRaises(errors.Refused) as caught:
                raise getattr(errors, name)((name, 7))
            self.assertEqual((name, 7), caught.exception.what)

    def test_each_wants_one_argument(self):
        for name in UNDER_REFUSED + ("Refused",):
            self.assertRaises(TypeError, getattr(errors, name))
            self.assertRaises(TypeError, getattr(errors, name), 1, 2)


if __name__ == "__main__":
    unittest.main()
