import unittest

from corehouse.errors import BadText, CoreError, NoDeed, NoName, OutOfBounds, Taken, Twice

UNDER_BAD_TEXT = (NoDeed, Twice, NoName, OutOfBounds, Taken)


class ErrorsTest(unittest.TestCase):
    def test_core_error_stands_under_value_error(self):
        self.assertEqual(CoreError.__bases__, (ValueError,))

    def test_bad_text_stands_under_core_error(self):
        self.assertEqual(BadText.__bases__, (CoreError,))

    def test_each_refusal_of_a_text_stands_under_bad_text(self):
        for kind in UNDER_BAD_TEXT:
            self.assertEqual(kind.__bases__, (BadText,), kind.__name__)

    def test_refusals_of_a_text_are_apart(self):
        for kind in UNDER_BAD_TEXT:
            for other in UNDER_BAD_TEXT:
                self.assertEqual(issubclass(kind, other), kind is other)

    def test_the_line_is_set_when_it_is_made(self):
        for kind in (BadText,) + UNDER_BAD_TEXT:
            for line in (1, 2, 64, 1000):
                self.assertEqual(kind(line).line, line)

    def test_each_object_has_its_own_line(self):
        first = NoDeed(3)
        second = NoDeed(4)
        self.assertEqual((first.line, second.line), (3, 4))

    def test_a_refusal_is_taken_by_each_class_above_it_with_its_line(self):
        for kind in UNDER_BAD_TEXT:
            for above in (kind, BadText, CoreError, ValueError):
                with self.assertRaises(above) as caught:
                    raise kind(12)
                self.assertEqual(caught.exception.line, 12)


if __name__ == "__main__":
    unittest.main()
