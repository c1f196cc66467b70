"""The errors of the interface."""

import unittest

from toldwhensure import errors
from tests.support import HUGE, OWN_ERRORS


class Errors(unittest.TestCase):
    def test_gather_error_is_a_value_error(self):
        self.assertEqual(errors.GatherError.__bases__, (ValueError,))

    def test_each_error_is_a_direct_subclass(self):
        for name in OWN_ERRORS:
            with self.subTest(name):
                self.assertEqual(getattr(errors, name).__bases__, (errors.GatherError,))
                self.assertEqual(getattr(errors, name).__module__, "toldwhensure.errors")

    def test_there_are_no_other_errors(self):
        found = [
            name for name, thing in vars(errors).items()
            if isinstance(thing, type) and issubclass(thing, Exception)
        ]
        self.assertEqual(sorted(found), sorted(OWN_ERRORS + ("GatherError",)))

    def test_one_string(self):
        for name in ("GatherError",) + OWN_ERRORS:
            if name != "BadText":
                with self.subTest(name):
                    error = getattr(errors, name)("what is wrong")
                    self.assertEqual(str(error), "what is wrong")
                    self.assertEqual(error.args, ("what is wrong",))

    def test_bad_text_has_its_line(self):
        for line in (1, 2, 40, HUGE):
            self.assertEqual(errors.BadText(line).line, line)
        self.assertEqual(errors.BadText(line=7).line, 7)

    def test_each_bad_text_has_its_own_line(self):
        one = errors.BadText(3)
        other = errors.BadText(8)
        self.assertEqual((one.line, other.line), (3, 8))

    def test_the_message_of_bad_text_tells_the_line(self):
        self.assertIn("12", str(errors.BadText(12)))


if __name__ == "__main__":
    unittest.main()
