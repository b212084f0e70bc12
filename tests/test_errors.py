import unittest

from bentrows import errors

TEXT_ERRORS = ["NoSheet", "NoPlace", "NoNumber", "NoRow", "Apart", "NoRing", "TooMany", "Bare", "NoSigns", "NoLine"]


class ErrorsTest(unittest.TestCase):
    """[5] and the interface of errors.py."""

    def test_bent_error_stands_straight_under_value_error(self):
        self.assertEqual(errors.BentError.__bases__, (ValueError,))

    def test_each_class_stands_straight_under_bent_error(self):
        for name in TEXT_ERRORS + ["OnLine", "NoText"]:
            self.assertEqual(getattr(errors, name).__bases__, (errors.BentError,), name)

    def test_classes_are_unlike(self):
        classes = [getattr(errors, name) for name in TEXT_ERRORS + ["OnLine", "NoText"]]
        for one in classes:
            self.assertEqual([other for other in classes if issubclass(one, other)], [one])

    def test_made_of_a_text(self):
        for name in TEXT_ERRORS:
            self.assertEqual(str(getattr(errors, name)("some words")), "some words")

    def test_on_line_keeps_three(self):
        three = ((0, 0), (1, 1), (2, 2))
        self.assertEqual(errors.OnLine(three).three, three)

    def test_no_text_keeps_at(self):
        self.assertEqual(errors.NoText(7).at, 7)


if __name__ == "__main__":
    unittest.main()
