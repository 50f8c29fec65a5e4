"""The errors: their names, and what stands straight under what."""

import unittest

from risefall import errors


class Errors(unittest.TestCase):
    KINDS = ("BadWord", "BadNumber", "BadOrder", "BadRow")

    def test_rise_error_stands_straight_under_value_error(self):
        self.assertEqual(errors.RiseError.__bases__, (ValueError,))

    def test_each_kind_stands_straight_under_rise_error(self):
        for name in self.KINDS:
            self.assertEqual(getattr(errors, name).__bases__, (errors.RiseError,), name)

    def test_the_kinds_are_four_and_none_is_another(self):
        kinds = [getattr(errors, name) for name in self.KINDS]
        for kind in kinds:
            self.assertEqual([other for other in kinds if issubclass(kind, other)], [kind])

    def test_each_is_defined_in_its_file_under_its_name(self):
        for name in ("RiseError",) + self.KINDS:
            kind = getattr(errors, name)
            self.assertEqual((kind.__module__, kind.__name__), ("risefall.errors", name))

    def test_each_is_raised_with_words_and_caught_as_what_it_stands_under(self):
        for name in self.KINDS:
            for caught in (getattr(errors, name), errors.RiseError, ValueError):
                with self.assertRaises(caught) as held:
                    raise getattr(errors, name)("some words")
                self.assertEqual(str(held.exception), "some words")


if __name__ == "__main__":
    unittest.main()
