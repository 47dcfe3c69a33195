import unittest

from widthrules import errors

NAMES = (
    "BadFormat", "BadInteger", "BadNumber", "BadRule", "BadNumbers", "BadWidth", "BadChoice",
    "BadRules", "NotMade", "NotText", "InvalidText", "NotNow", "NothingToUndo",
)


class Errors(unittest.TestCase):
    def test_the_base_is_a_value_error(self):
        self.assertTrue(issubclass(errors.WidthError, ValueError))
        self.assertEqual(errors.WidthError.__module__, "widthrules.errors")

    def test_each_error_is_a_direct_subclass_of_the_base(self):
        self.assertEqual(len(NAMES), 13)
        for name in NAMES:
            found = getattr(errors, name)
            self.assertEqual(found.__bases__, (errors.WidthError,), name)
            self.assertEqual(found.__name__, name)
            self.assertEqual(found.__module__, "widthrules.errors")

    def test_there_are_no_other_errors(self):
        found = [name for name, value in vars(errors).items() if isinstance(value, type)]
        self.assertEqual(sorted(found), sorted(NAMES + ("WidthError",)))

    def test_no_error_is_another(self):
        for name in NAMES:
            with self.assertRaises(errors.WidthError) as caught:
                raise getattr(errors, name)("told")
            self.assertEqual(caught.exception.__class__.__name__, name)


if __name__ == "__main__":
    unittest.main()
