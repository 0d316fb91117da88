import unittest

from stillheap.boxes import Boxes
from tests.helpers import at, head, refusal, words

FIVE = ("number", 5)


def three():
    """Three boxes: 4 with two fields in the first, 9 without any in the second, the last one free."""
    boxes = Boxes(3)
    boxes.lay(4, [FIVE, at(7)])
    boxes.lay(9, [])
    return boxes


def told(boxes):
    return (words(boxes.memory()), boxes.firsts())


class LayTest(unittest.TestCase):
    def test_all_boxes_are_free_at_first(self):
        for many in (0, 1, 3, 400):
            self.assertEqual(told(Boxes(many)), ([None] * (7 * many), []))

    def test_things_of_each_count_of_fields(self):
        boxes = Boxes(7)
        expected = []
        for n in range(7):
            values = [("number", k) for k in range(n)]
            self.assertEqual(boxes.lay(10 + n, values), 7 * n)
            expected += [head(10 + n, n)] + values + [None] * (6 - n)
            self.assertEqual(boxes.thing(7 * n), (10 + n, values))
        self.assertEqual(told(boxes), (expected, [0, 7, 14, 21, 28, 35, 42]))

    def test_the_least_free_box(self):
        boxes = Boxes(4)
        for t in range(4):
            boxes.lay(t, [])
        boxes.clear(14)
        boxes.clear(0)
        boxes.clear(21)
        self.assertEqual(boxes.firsts(), [7])
        self.assertEqual([boxes.lay(t, [None]) for t in (4, 5, 6)], [0, 14, 21])

    def test_no_box_is_free(self):
        for many in (0, 1, 3):
            boxes = Boxes(many)
            for t in range(many):
                boxes.lay(t, [FIVE] * 6)
            before = told(boxes)
            self.assertEqual(refusal(boxes.lay, 9, []), "NoRoom")
            self.assertEqual(told(boxes), before)
            if many:
                boxes.clear(7 * (many - 1))
                self.assertEqual(boxes.lay(9, []), 7 * (many - 1))

    def test_four_hundred_boxes(self):
        boxes = Boxes(400)
        self.assertEqual([boxes.lay(t, []) for t in range(400)], list(range(0, 2800, 7)))
        self.assertEqual(refusal(boxes.lay, 400, []), "NoRoom")

    def test_a_smaller_thing_in_a_greater_ones_box(self):
        boxes = three()
        boxes.clear(0)
        self.assertEqual(words(boxes.memory()), [None] * 7 + [head(9, 0)] + [None] * 13)
        boxes.lay(5, [None])
        boxes.lay(6, [FIVE] * 6)
        boxes.clear(14)
        boxes.lay(7, [at(0)])
        self.assertEqual(words(boxes.memory()), [head(5, 1)] + [None] * 6 + [head(9, 0)] + [None] * 6 + [
            head(7, 1), at(0)] + [None] * 5)


class AddressTest(unittest.TestCase):
    NONE = (14, 1, 3, 6, 8, 13, 15, 20, -1, -7, -14, -21, 21, 22, 28, 700, 10 ** 60, -10 ** 60)

    def test_where_a_thing_stands(self):
        boxes = three()
        self.assertEqual((boxes.thing(0), boxes.thing(7)), ((4, [FIVE, at(7)]), (9, [])))
        self.assertIsNone(boxes.put(0, 1, None))
        self.assertEqual(boxes.thing(0), (4, [FIVE, None]))
        self.assertIsNone(boxes.clear(7))
        self.assertEqual(boxes.firsts(), [0])
        self.assertIsNone(boxes.clear(0))
        self.assertEqual(told(boxes), ([None] * 21, []))

    def test_where_none_stands(self):
        for a in self.NONE:
            boxes = three()
            before = told(boxes)
            self.assertEqual(refusal(boxes.thing, a), "BadAddress", a)
            self.assertEqual(refusal(boxes.put, a, 0, None), "BadAddress", a)
            self.assertEqual(refusal(boxes.clear, a), "BadAddress", a)
            self.assertEqual(told(boxes), before)

    def test_without_boxes(self):
        boxes = Boxes(0)
        for a in (-7, -1, 0, 7):
            self.assertEqual(refusal(boxes.thing, a), "BadAddress")
            self.assertEqual(refusal(boxes.put, a, 0, None), "BadAddress")
            self.assertEqual(refusal(boxes.clear, a), "BadAddress")

    def test_cleared_boxes_have_no_thing(self):
        boxes = three()
        boxes.clear(7)
        self.assertEqual(refusal(boxes.thing, 7), "BadAddress")
        self.assertEqual(refusal(boxes.clear, 7), "BadAddress")

    def test_a_heads_word_in_a_field_makes_no_thing(self):
        boxes = three()
        boxes.put(0, 0, head(3, 1))
        for call in (lambda: boxes.thing(1), lambda: boxes.put(1, 0, None), lambda: boxes.clear(1)):
            self.assertEqual(refusal(call), "BadAddress")

    def test_fields_that_are_none(self):
        for a, k in ((0, 2), (0, -1), (0, 6), (0, 7), (0, -7), (7, 0), (7, -1), (0, 10 ** 60)):
            boxes = three()
            before = told(boxes)
            self.assertEqual(refusal(boxes.put, a, k, FIVE), "BadAddress", (a, k))
            self.assertEqual(told(boxes), before)


class OwnTest(unittest.TestCase):
    def test_what_is_told_is_the_askers_own(self):
        boxes = three()
        before = told(boxes)
        boxes.firsts().append(14)
        boxes.memory().put(14, FIVE)
        boxes.thing(0)[1][0] = None
        self.assertEqual(told(boxes), before)
        self.assertEqual(told(boxes), before)

    def test_what_is_handed_in_is_not_kept(self):
        boxes = Boxes(1)
        values = [FIVE, None]
        boxes.lay(0, values)
        values[0] = None
        values.append(None)
        self.assertEqual(boxes.thing(0), (0, [FIVE, None]))
        boxes.put(0, 1, FIVE)
        self.assertEqual(values, [None, None, None])

    def test_a_memory_told_before_stays(self):
        boxes = three()
        memory = boxes.memory()
        boxes.clear(0)
        self.assertEqual(memory.at(0), head(4, 2))

    def test_two_side_by_side(self):
        one, other = three(), three()
        one.clear(0)
        one.lay(8, [])
        self.assertEqual((other.thing(0), one.thing(0)), ((4, [FIVE, at(7)]), (8, [])))
        other.put(0, 0, None)
        self.assertEqual((told(one)[1], told(other)[1]), ([0, 7], [0, 7]))
        self.assertEqual(one.memory().at(1), None)


if __name__ == "__main__":
    unittest.main()
