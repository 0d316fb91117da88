"""The deeds and asks of an ideal heap, and the order in which they are refused."""

import unittest

from stillheap.errors import BadCount, BadView
from stillheap.ideal import IdealHeap
from tests.helpers import all_told, refusal

GREATEST = 10 ** 60
NO_HANDS = (-1, 8)
NO_NAMES = (-1, 8)


def furnished():
    """Hand 0: a thing of 2 fields, 1: a number, 2: None, 3: a thing without fields."""
    heap = IdealHeap(0, 100)
    heap.make(0, 2)
    heap.number(1, 7)
    heap.make(3, 0)
    heap.store(0, 1, 3)
    heap.name(4, 3)
    heap.word(3, 9)
    return heap


class LimitsTest(unittest.TestCase):
    def test_rooms_and_limits_that_are_some(self):
        for young in (0, 7, 64):
            for limit in (7, 400):
                self.assertEqual(IdealHeap(young, limit).held(), 0)

    def test_rooms_and_limits_that_are_none(self):
        for young, limit in ((-1, 100), (1, 100), (6, 100), (65, 100), (0, 6), (0, 401), (7, 6), (64, 401)):
            with self.assertRaises(BadCount):
                IdealHeap(young, limit)

    def test_at_first(self):
        self.assertEqual(all_told(IdealHeap(7, 7)), {
            "hands": [None] * 8, "names": [None] * 8, "things": [], "fields": [], "old": [],
            "words": [], "doomed": [], "said": [], "made": 0, "held": 0, "round": False,
            "kinds": ["none"] * 8,
        })


class DeedsTest(unittest.TestCase):
    def test_make(self):
        heap = IdealHeap(0, 100)
        self.assertIsNone(heap.make(7, 3))
        self.assertEqual(heap.hands(), [None] * 7 + [("thing", 0)])
        self.assertEqual(heap.fields_of(0), [None, None, None])
        heap.make(7, 0)
        self.assertEqual(heap.hands()[7], ("thing", 1))
        self.assertEqual(heap.things(), [0, 1])
        self.assertEqual(heap.fields_of(1), [])
        self.assertEqual(heap.made(), 2)

    def test_make_with_each_count(self):
        for n in range(7):
            heap = IdealHeap(0, 100)
            heap.make(0, n)
            self.assertEqual((heap.fields(0), heap.held()), (n, n + 1))

    def test_numbers_of_making_are_never_given_twice(self):
        heap = IdealHeap(0, 100)
        heap.make(0, 0)
        heap.drop(0)
        heap.begin()
        heap.end()
        self.assertEqual(heap.things(), [])
        heap.make(0, 0)
        self.assertEqual((heap.things(), heap.made()), ([1], 2))

    def test_store_and_load(self):
        heap = IdealHeap(0, 100)
        heap.make(0, 6)
        heap.number(1, 5)
        self.assertIsNone(heap.store(0, 0, 1))
        heap.store(0, 5, 0)
        self.assertEqual(heap.fields_of(0), [("number", 5), None, None, None, None, ("thing", 0)])
        self.assertIsNone(heap.load(2, 0, 5))
        heap.load(3, 0, 0)
        heap.load(1, 0, 1)
        self.assertEqual(heap.hands()[:4], [("thing", 0), None, ("thing", 0), ("number", 5)])
        heap.store(0, 0, 1)
        self.assertEqual(heap.fields_of(0)[0], None)

    def test_load_into_the_hand_of_the_thing(self):
        heap = IdealHeap(0, 100)
        heap.make(0, 1)
        heap.load(0, 0, 0)
        self.assertEqual(heap.hands()[0], None)

    def test_copy_and_drop_and_number(self):
        heap = IdealHeap(0, 100)
        heap.make(0, 0)
        self.assertIsNone(heap.number(1, -3))
        self.assertIsNone(heap.copy(2, 0))
        heap.copy(3, 1)
        heap.copy(1, 4)
        self.assertIsNone(heap.drop(0))
        self.assertEqual(heap.hands()[:5], [None, None, ("thing", 0), ("number", -3), None])

    def test_numbers_at_their_bounds(self):
        heap = IdealHeap(0, 100)
        for x in (-GREATEST, 0, GREATEST):
            heap.number(0, x)
            self.assertEqual(heap.value(0), x)

    def test_names_and_reads(self):
        heap = IdealHeap(0, 100)
        heap.make(0, 0)
        heap.make(1, 0)
        self.assertIsNone(heap.name(0, 0))
        heap.name(7, 0)
        heap.name(0, 1)
        self.assertEqual(heap.names(), [1] + [None] * 6 + [0])
        self.assertIsNone(heap.read(5, 7))
        heap.read(0, 3)
        self.assertEqual(heap.hands()[:6], [None, ("thing", 1), None, None, None, ("thing", 0)])

    def test_words(self):
        heap = IdealHeap(0, 100)
        heap.make(0, 0)
        self.assertIsNone(heap.word_of(0))
        self.assertIsNone(heap.word(0, GREATEST))
        self.assertEqual(heap.word_of(0), GREATEST)
        heap.word(0, -GREATEST)
        self.assertEqual(heap.word_of(0), -GREATEST)
        self.assertEqual(heap.said(), [])

    def test_take(self):
        heap = IdealHeap(0, 100)
        self.assertIsNone(heap.take())
        for x in (5, 0, -2):
            heap.make(0, 0)
            heap.word(0, x)
        heap.drop(0)
        heap.begin()
        heap.end()
        self.assertEqual(heap.said(), [5, 0, -2])
        self.assertEqual([heap.take(), heap.said()], [5, [0, -2]])
        self.assertEqual([heap.take(), heap.take(), heap.take()], [0, -2, None])


class AsksTest(unittest.TestCase):
    def test_kinds_values_and_fields(self):
        heap = furnished()
        self.assertEqual([heap.kind(h) for h in range(4)], ["thing", "number", "none", "thing"])
        self.assertEqual(heap.value(1), 7)
        self.assertEqual([heap.fields(0), heap.fields(3)], [2, 0])

    def test_same(self):
        heap = IdealHeap(0, 100)
        heap.make(0, 1)
        heap.copy(1, 0)
        heap.make(2, 1)
        heap.number(3, 0)
        heap.number(4, 0)
        heap.number(5, 1)
        classes = {0: "a", 1: "a", 2: "b", 3: "c", 4: "c", 5: "d", 6: "e", 7: "e"}
        for h in range(8):
            for g in range(8):
                self.assertIs(heap.same(h, g), classes[h] == classes[g], (h, g))

    def test_a_number_is_not_the_thing_of_that_number(self):
        heap = IdealHeap(0, 100)
        heap.make(0, 0)
        heap.number(1, 0)
        self.assertIs(heap.same(0, 1), False)

    def test_held(self):
        heap = IdealHeap(0, 400)
        heap.make(0, 6)
        heap.make(0, 0)
        heap.make(1, 2)
        self.assertEqual(heap.held(), 7 + 1 + 3)
        heap.begin()
        self.assertEqual(heap.held(), 7 + 1 + 3)
        heap.end()
        self.assertEqual(heap.held(), 1 + 3)

    def test_asked_again_is_told_alike(self):
        heap = furnished()
        self.assertEqual(all_told(heap), all_told(heap))


class OwnTest(unittest.TestCase):
    """What is told is the asker's own."""

    def test_lists_are_the_askers_own(self):
        heap = furnished()
        heap.make(5, 0)
        heap.word(5, 1)
        heap.drop(5)
        heap.begin()
        heap.end()
        heap.make(5, 0)
        heap.drop(5)
        heap.begin()
        before = all_told(heap)
        self.assertNotEqual(before["doomed"], [])
        self.assertNotEqual(before["said"], [])
        for ask in (heap.hands, heap.names, heap.things, heap.doomed, heap.said):
            told = ask()
            told[0] = 99
            told.append(98)
            self.assertEqual(all_told(heap), before, ask)
        told = heap.fields_of(0)
        told[0] = ("number", 99)
        self.assertEqual(all_told(heap), before)

    def test_no_two_lists_are_one(self):
        heap = furnished()
        for ask in (heap.hands, heap.names, heap.things, heap.doomed, heap.said):
            self.assertIsNot(ask(), ask())
        self.assertIsNot(heap.fields_of(0), heap.fields_of(0))

    def test_witnesses_refuse_what_is_not_held(self):
        heap = furnished()
        heap.make(5, 0)
        heap.drop(5)
        heap.begin()
        heap.end()
        for t in (-1, 2, 3, 10 ** 70):
            for ask in (heap.fields_of, heap.is_old, heap.word_of):
                with self.assertRaises(BadView):
                    ask(t)


class RefusalsTest(unittest.TestCase):
    def assert_refused(self, heap, name, method, *parts):
        before = all_told(heap)
        self.assertEqual(refusal(getattr(heap, method), *parts), name, (method, parts))
        self.assertEqual(all_told(heap), before, (method, parts))

    def test_hands_that_are_none(self):
        heap = furnished()
        for bad in NO_HANDS:
            for method, parts in (
                ("make", (bad, 0)), ("load", (bad, 0, 0)), ("load", (1, bad, 0)), ("store", (bad, 0, 0)),
                ("store", (0, 0, bad)), ("copy", (bad, 0)), ("copy", (0, bad)), ("drop", (bad,)),
                ("number", (bad, 0)), ("name", (0, bad)), ("read", (bad, 0)), ("word", (bad, 0)),
                ("kind", (bad,)), ("value", (bad,)), ("fields", (bad,)), ("same", (bad, 0)), ("same", (0, bad)),
            ):
                self.assert_refused(heap, "BadHand", method, *parts)

    def test_hands_in_which_a_thing_is_due(self):
        heap = furnished()
        for h in (1, 2):
            for method, parts in (
                ("load", (0, h, 0)), ("store", (h, 0, 0)), ("name", (0, h)), ("word", (h, 0)), ("fields", (h,)),
            ):
                self.assert_refused(heap, "BadHand", method, *parts)

    def test_hands_in_which_a_number_is_due(self):
        heap = furnished()
        for h in (0, 2, 3):
            self.assert_refused(heap, "BadHand", "value", h)

    def test_names_that_are_none(self):
        heap = furnished()
        for bad in NO_NAMES:
            self.assert_refused(heap, "BadName", "name", bad, 0)
            self.assert_refused(heap, "BadName", "read", 0, bad)

    def test_fields_that_are_none(self):
        heap = furnished()
        for h, k in ((0, -1), (0, 2), (0, 6), (3, 0), (3, -1)):
            self.assert_refused(heap, "BadField", "load", 1, h, k)
            self.assert_refused(heap, "BadField", "store", h, k, 1)

    def test_counts_beyond_their_bounds(self):
        heap = furnished()
        for n in (-1, 7):
            self.assert_refused(heap, "BadCount", "make", 0, n)
        for x in (-GREATEST - 1, GREATEST + 1):
            self.assert_refused(heap, "BadCount", "number", 0, x)
            self.assert_refused(heap, "BadCount", "word", 0, x)

    def test_a_bad_hand_goes_first(self):
        heap = furnished()
        for method, parts in (
            ("name", (-1, 1)), ("name", (8, 8)), ("read", (8, 8)), ("load", (8, 0, 9)), ("load", (0, 1, 9)),
            ("load", (0, 8, 9)), ("store", (0, 9, 8)), ("store", (1, 9, 0)), ("store", (8, 9, 0)),
            ("make", (8, 7)), ("number", (8, GREATEST + 1)), ("word", (8, GREATEST + 1)),
            ("word", (1, GREATEST + 1)),
        ):
            self.assert_refused(heap, "BadHand", method, *parts)

    def test_a_bad_count_goes_ahead_of_too_many_words(self):
        heap = IdealHeap(0, 100)
        for x in range(12):
            heap.make(0, 0)
            heap.word(0, x)
        heap.make(0, 0)
        self.assert_refused(heap, "BadHand", "word", 1, GREATEST + 1)
        self.assert_refused(heap, "BadCount", "word", 0, GREATEST + 1)
        self.assert_refused(heap, "TooManyWords", "word", 0, GREATEST)

    def test_a_bad_count_goes_ahead_of_no_room(self):
        heap = IdealHeap(7, 7)
        heap.make(0, 6)
        self.assert_refused(heap, "BadHand", "make", 8, 7)
        self.assert_refused(heap, "BadCount", "make", 0, 7)
        self.assertEqual(heap.is_old(0), False)
        self.assertEqual(refusal(heap.make, 0, 6), "NoRoom")


if __name__ == "__main__":
    unittest.main()
