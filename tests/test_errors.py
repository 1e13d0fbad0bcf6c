import unittest

from keydeeds.errors import DeedError, NoRoom, NoText


class ErrorTests(unittest.TestCase):
    def test_deed_error_is_a_value_error(self):
        self.assertEqual(DeedError.__bases__, (ValueError,))

    def test_both_are_below_deed_error(self):
        self.assertTrue(issubclass(NoText, DeedError))
        self.assertTrue(issubclass(NoRoom, DeedError))

    def test_neither_is_below_the_other(self):
        self.assertFalse(issubclass(NoText, NoRoom))
        self.assertFalse(issubclass(NoRoom, NoText))

    def test_deed_error_is_below_neither(self):
        self.assertFalse(issubclass(DeedError, NoText))
        self.assertFalse(issubclass(DeedError, NoRoom))

    def test_each_is_caught_as_a_refusal(self):
        for error in (DeedError, NoText, NoRoom):
            with self.assertRaises(DeedError):
                raise error("why")


if __name__ == "__main__":
    unittest.main()
