import unittest

from stillheap.errors import BadAddress
from stillheap.layout import field_at, lay, move, put_field, resolved, thing_at, walked
from stillheap.memory import Memory
from tests.helpers import memory_of, words

SIX = [None, ("number", 1), ("at", 0), ("number", -2), None, ("at", 90)]


class LayoutCase(unittest.TestCase):
    def assert_refused(self, memory, call, *parts):
        before = words(memory)
        with self.assertRaises(BadAddress, msg=(call, parts)):
            call(memory, *parts)
        self.assertEqual(words(memory), before)


class LayTest(LayoutCase):
    def test_a_thing_is_laid(self):
        memory = Memory(9)
        self.assertIsNone(lay(memory, 1, 12, SIX))
        self.assertEqual(words(memory), [None, ("head", 12, 6)] + SIX + [None])
        lay(memory, 0, 3, [])
        self.assertEqual(words(memory), [("head", 3, 0), ("head", 12, 6)] + SIX + [None])

    def test_what_is_handed_in_is_not_kept(self):
        memory = Memory(3)
        values = [None, ("number", 1)]
        lay(memory, 0, 0, values)
        values[0] = ("number", 5)
        self.assertEqual(thing_at(memory, 0), (0, [None, ("number", 1)]))
        self.assertEqual(values, [("number", 5), ("number", 1)])

    def test_at_the_memorys_end_and_beyond(self):
        for values in ([], [None], SIX):
            size = 8
            memory = Memory(size)
            last = size - len(values) - 1
            lay(memory, last, 0, values)
            self.assertEqual(memory.at(last), ("head", 0, len(values)))
            self.assert_refused(memory, lay, last + 1, 1, values)
            self.assert_refused(memory, lay, size, 1, values)
            self.assert_refused(memory, lay, -1, 1, values)
            self.assert_refused(memory, lay, -len(values) - 1, 1, values)

    def test_a_memory_without_words(self):
        self.assert_refused(Memory(0), lay, 0, 0, [])


class ThingAtTest(LayoutCase):
    def test_things(self):
        memory = Memory(10)
        lay(memory, 0, 4, [])
        lay(memory, 1, 5, SIX)
        lay(memory, 9, 6, [])
        self.assertEqual(thing_at(memory, 0), (4, []))
        self.assertEqual(thing_at(memory, 1), (5, SIX))
        self.assertEqual(thing_at(memory, 9), (6, []))

    def test_whatever_its_fields_are(self):
        memory = memory_of([("head", 1, 2), ("head", 7, 9), ("moved", 0, 0)])
        self.assertEqual(thing_at(memory, 0), (1, [("head", 7, 9), ("moved", 0, 0)]))

    def test_told_is_the_askers_own(self):
        memory = Memory(3)
        lay(memory, 0, 1, [None, None])
        thing_at(memory, 0)[1][0] = ("number", 1)
        self.assertEqual(thing_at(memory, 0), (1, [None, None]))

    def test_where_none_stands(self):
        memory = memory_of([None, ("number", 0), ("at", 5), ("moved", 5, 0), ("moved", 5, 6), ("head", 0, 2), None])
        for a in (-1, 0, 1, 2, 3, 4, 5, 6, 7, 10 ** 70):
            self.assert_refused(memory, thing_at, a)

    def test_a_thing_whose_words_go_beyond(self):
        memory = memory_of([("head", 0, 2), None])
        self.assert_refused(memory, thing_at, 0)
        self.assertEqual(thing_at(memory_of([("head", 0, 2), None, None]), 0), (0, [None, None]))

    def test_a_head_with_a_count_below_nought(self):
        memory = memory_of([("head", 0, -1), None])
        self.assert_refused(memory, thing_at, 0)
        self.assert_refused(memory, walked, 0, 1)


class FieldTest(LayoutCase):
    def test_fields_read_and_put(self):
        memory = Memory(8)
        lay(memory, 1, 5, SIX)
        self.assertEqual([field_at(memory, 1, k) for k in range(6)], SIX)
        self.assertIsNone(put_field(memory, 1, 0, ("number", 9)))
        put_field(memory, 1, 5, None)
        self.assertEqual(words(memory), [None, ("head", 5, 6), ("number", 9)] + SIX[1:5] + [None])

    def test_fields_that_are_none(self):
        memory = Memory(9)
        lay(memory, 0, 5, [None, None])
        lay(memory, 3, 6, [])
        for a, k in ((0, -1), (0, 2), (0, 3), (3, 0), (3, -1), (0, 10 ** 70)):
            self.assert_refused(memory, field_at, a, k)
            self.assert_refused(memory, put_field, a, k, ("number", 1))

    def test_where_no_thing_stands(self):
        memory = memory_of([None, ("moved", 4, 1), ("number", 3), None, ("head", 0, 1), None, ("head", 1, 1)])
        for a in (-1, 0, 1, 2, 5, 6, 7):
            self.assert_refused(memory, field_at, a, 0)
            self.assert_refused(memory, put_field, a, 0, ("number", 1))


class MoveTest(LayoutCase):
    def test_a_thing_is_moved(self):
        memory = Memory(8)
        lay(memory, 0, 5, [("number", 1), ("at", 0)])
        self.assertIsNone(move(memory, 0, 5))
        thing = [("number", 1), ("at", 0)]
        self.assertEqual(words(memory), [("moved", 5, 2)] + thing + [None, None, ("head", 5, 2)] + thing)
        self.assertEqual(thing_at(memory, 5), (5, thing))

    def test_to_the_words_straight_ahead_and_behind(self):
        memory = Memory(6)
        lay(memory, 2, 5, [("number", 1)])
        move(memory, 2, 4)
        move(memory, 4, 0)
        self.assertEqual(words(memory), [
            ("head", 5, 1), ("number", 1), ("moved", 4, 1), ("number", 1), ("moved", 0, 1), ("number", 1),
        ])
        self.assertEqual(resolved(memory, 2), 0)

    def test_a_thing_without_fields(self):
        memory = Memory(2)
        lay(memory, 0, 5, [])
        move(memory, 0, 1)
        self.assertEqual(words(memory), [("moved", 1, 0), ("head", 5, 0)])

    def test_refused(self):
        memory = Memory(8)
        lay(memory, 0, 5, [None, None])
        for b in (-1, -3, 6, 7, 8, 10 ** 70):
            self.assert_refused(memory, move, 0, b)
        for a in (-1, 1, 3, 8):
            self.assert_refused(memory, move, a, 5)
        move(memory, 0, 5)
        self.assert_refused(memory, move, 0, 3)
        self.assert_refused(memory_of([("head", 0, 3), None, None]), move, 0, 0)


class ResolvedTest(LayoutCase):
    def test_chains_of_forwards(self):
        memory = memory_of([
            ("moved", 2, 0), ("moved", 0, 0), ("moved", 4, 0), ("at", 1), ("head", 0, 0), None, ("number", 1),
        ])
        self.assertEqual([resolved(memory, a) for a in range(7)], [4, 4, 4, 3, 4, 5, 6])

    def test_an_address_that_the_memory_has_not(self):
        memory = memory_of([("moved", 3, 0), ("moved", 0, 0), ("moved", -1, 0)])
        for a in (-1, 0, 1, 2, 3, 10 ** 70):
            self.assert_refused(memory, resolved, a)

    def test_a_forward_to_the_last_address(self):
        self.assertEqual(resolved(memory_of([("moved", 1, 0), None]), 0), 1)


class WalkedTest(LayoutCase):
    def filled(self):
        memory = Memory(20)
        lay(memory, 2, 0, [None, None])
        lay(memory, 5, 1, [])
        lay(memory, 6, 2, SIX)
        lay(memory, 13, 3, [None])
        return memory

    def test_things_are_walked(self):
        memory = self.filled()
        self.assertEqual(walked(memory, 2, 15), [2, 5, 6, 13])
        self.assertEqual(walked(memory, 5, 13), [5, 6])
        self.assertEqual(walked(memory, 2, 5), [2])

    def test_forwards_are_walked(self):
        memory = self.filled()
        move(memory, 2, 15)
        move(memory, 5, 18)
        self.assertEqual(walked(memory, 2, 15), [2, 5, 6, 13])
        self.assertEqual(walked(memory, 2, 19), [2, 5, 6, 13, 15, 18])

    def test_forwards_alone(self):
        memory = memory_of([("moved", 3, 1), ("head", 9, 9), ("moved", -5, 0)])
        self.assertEqual(walked(memory, 0, 3), [0, 2])

    def test_up_to_the_memorys_end(self):
        memory = memory_of([("head", 0, 1), None, ("moved", 0, 1), None])
        self.assertEqual(walked(memory, 0, 4), [0, 2])

    def test_first_and_behind_alike(self):
        memory = self.filled()
        for a in (0, 2, 3, 19, 20):
            self.assertEqual(walked(memory, a, a), [])
        self.assertEqual(walked(Memory(0), 0, 0), [])

    def test_another_word_at_a_things_begin(self):
        memory = self.filled()
        for first, behind in ((0, 15), (1, 2), (3, 15), (2, 16), (2, 17), (-1, 2)):
            self.assert_refused(memory, walked, first, behind)
        memory.put(2, ("number", 1))
        self.assert_refused(memory, walked, 2, 5)
        memory.put(2, ("at", 5))
        self.assert_refused(memory, walked, 2, 5)

    def test_a_thing_that_goes_beyond(self):
        memory = self.filled()
        for behind in (3, 4, 7, 12, 14):
            self.assert_refused(memory, walked, 2, behind)
        move(memory, 2, 15)
        self.assert_refused(memory, walked, 2, 4)

    def test_a_thing_that_goes_beyond_the_memory(self):
        for word in (("head", 0, 2), ("moved", 0, 2)):
            self.assert_refused(memory_of([word, None]), walked, 0, 3)
        self.assert_refused(memory_of([("head", 0, 0)]), walked, 0, 2)

    def test_told_is_the_askers_own(self):
        memory = self.filled()
        walked(memory, 2, 15).append(3)
        self.assertEqual(walked(memory, 2, 15), [2, 5, 6, 13])


if __name__ == "__main__":
    unittest.main()
