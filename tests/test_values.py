import unittest

from stillheap import values
from stillheap.errors import BadCount, BadHand, BadName

GREATEST = 10 ** 60


class ValuesTest(unittest.TestCase):
    def test_numbers_within_their_bounds(self):
        for x in (-GREATEST, -1, 0, 1, GREATEST):
            self.assertEqual(values.number_value(x), ("number", x))

    def test_numbers_beyond_their_bounds(self):
        for x in (-GREATEST - 1, GREATEST + 1, 10 ** 90):
            with self.assertRaises(BadCount):
                values.number_value(x)

    def test_things(self):
        for t in (0, 1, 400, 10 ** 9):
            self.assertEqual(values.thing_value(t), ("thing", t))
        with self.assertRaises(BadCount):
            values.thing_value(-1)

    def test_kinds(self):
        self.assertEqual(values.kind_of(None), "none")
        self.assertEqual(values.kind_of(("number", 0)), "number")
        self.assertEqual(values.kind_of(("thing", 0)), "thing")

    def test_words(self):
        self.assertEqual([values.words_of(n) for n in range(7)], [1, 2, 3, 4, 5, 6, 7])
        for n in (-1, 7, 100):
            with self.assertRaises(BadCount):
                values.words_of(n)

    def test_hands(self):
        for h in range(8):
            self.assertIsNone(values.look_at_hand(h))
        for h in (-1, 8, 10 ** 70):
            with self.assertRaises(BadHand):
                values.look_at_hand(h)

    def test_weak_names(self):
        for w in range(8):
            self.assertIsNone(values.look_at_name(w))
        for w in (-1, 8, 10 ** 70):
            with self.assertRaises(BadName):
                values.look_at_name(w)

    def test_limits(self):
        for young in (0, 7, 8, 63, 64):
            for limit in (7, 8, 399, 400):
                self.assertIsNone(values.look_at_limits(young, limit))

    def test_young_rooms_that_are_none(self):
        for young in (-1, 1, 6, 65, -7):
            with self.assertRaises(BadCount):
                values.look_at_limits(young, 100)

    def test_limits_that_are_none(self):
        for limit in (-7, 0, 6, 401):
            for young in (0, 7):
                with self.assertRaises(BadCount):
                    values.look_at_limits(young, limit)


if __name__ == "__main__":
    unittest.main()
