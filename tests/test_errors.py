import unittest

from stillheap import errors

NAMES = (
    "BadHand", "BadName", "BadField", "BadCount", "NoRoom", "TooManyWords", "RoundOn",
    "NoRound", "BadText", "BadView", "BadAddress", "BadPaper", "BadLog",
)
WITH_ROW = ("BadText", "BadLog")


def made(name):
    made_of = ("some words", 5) if name in WITH_ROW else ("some words",)
    return getattr(errors, name)(*made_of)


class ErrorsTest(unittest.TestCase):
    def test_heap_error_stands_under_value_error(self):
        self.assertEqual(errors.HeapError.__bases__, (ValueError,))
        self.assertEqual(errors.HeapError("some words").called(), "HeapError")

    def test_each_stands_straight_under_heap_error(self):
        for name in NAMES:
            self.assertEqual(getattr(errors, name).__bases__, (errors.HeapError,), name)

    def test_each_is_none_of_the_others(self):
        for name in NAMES:
            error = made(name)
            self.assertIsInstance(error, errors.HeapError)
            self.assertIsInstance(error, ValueError)
            others = [other for other in NAMES if isinstance(error, getattr(errors, other))]
            self.assertEqual(others, [name])

    def test_each_tells_its_name(self):
        for name in NAMES:
            self.assertEqual(made(name).called(), name)

    def test_each_can_be_raised_and_taken_with_its_text(self):
        for name in NAMES:
            with self.assertRaises(errors.HeapError) as taken:
                raise made(name)
            self.assertEqual(str(taken.exception), "some words")

    def test_rows_are_kept(self):
        self.assertEqual(errors.BadText("some words", 3).row, 3)
        self.assertEqual(errors.BadLog("some words", 0).row, 0)


if __name__ == "__main__":
    unittest.main()
