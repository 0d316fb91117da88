import random
import unittest

from stillheap.ideal import IdealHeap
from stillheap.memory import Memory
from stillheap.layout import lay
from stillheap.pictures import first_unlike, is_picture
from tests.helpers import all_told, words


class Painting:
    """A heap's things laid at chosen addresses, with the words that tell them."""

    def __init__(self, heap, size, stands):
        self.heap = heap
        self.memory = Memory(size)
        self.stands = dict(stands)
        self.book = sorted(self.stands.items())
        for t, a in self.book:
            lay(self.memory, a, t, [self.word(value) for value in heap.fields_of(t)])
        self.hands = [self.word(value) for value in heap.hands()]
        self.names = [None if t is None else ("at", self.stands[t]) for t in heap.names()]

    def word(self, value):
        if value is None or value[0] == "number":
            return value
        return ("at", self.stands[value[1]])

    def unlike(self):
        parts = (self.heap, self.memory, self.hands, self.names, self.book)
        first = first_unlike(*parts)
        assert is_picture(*parts) is (first is None)
        return first


def small_heap():
    """Things 1, 3, 4 of 2, 0 and 3 fields; 0 and 2 are gone."""
    heap = IdealHeap(0, 100)
    heap.make(0, 1)
    heap.make(0, 2)
    heap.make(1, 1)
    heap.make(1, 0)
    heap.make(2, 3)
    heap.begin()
    heap.end()
    heap.store(0, 0, 1)
    heap.store(0, 1, 0)
    heap.number(3, 7)
    heap.store(2, 1, 3)
    heap.store(2, 2, 0)
    heap.copy(4, 2)
    heap.name(1, 1)
    heap.name(6, 2)
    return heap


def small_painting():
    return Painting(small_heap(), 20, {1: 10, 3: 2, 4: 4})


class RightPictureTest(unittest.TestCase):
    def test_a_picture(self):
        painting = small_painting()
        self.assertIsNone(painting.unlike())
        told = (all_told(painting.heap), words(painting.memory), list(painting.hands), list(painting.names))
        self.assertIsNone(painting.unlike())
        self.assertEqual(
            (all_told(painting.heap), words(painting.memory), painting.hands, painting.names), told)

    def test_an_empty_heap(self):
        for size in (0, 5):
            painting = Painting(IdealHeap(0, 7), size, {})
            self.assertIsNone(painting.unlike())

    def test_in_any_order_with_gaps_or_without(self):
        places = ({1: 0, 3: 3, 4: 4}, {4: 0, 3: 4, 1: 5}, {3: 0, 1: 1, 4: 4}, {3: 19, 4: 15, 1: 0}, {1: 17, 4: 0, 3: 4})
        for stands in places:
            self.assertIsNone(Painting(small_heap(), 20, stands).unlike(), stands)
        self.assertIsNone(Painting(small_heap(), 8, places[0]).unlike())

    def test_words_by_forwards(self):
        painting = small_painting()
        painting.memory.put(15, ("moved", 10, 2))
        painting.memory.put(14, ("moved", 15, 2))
        painting.memory.put(0, ("moved", 4, 3))
        painting.memory.put(12, ("at", 14))
        painting.memory.put(7, ("at", 15))
        painting.hands[0] = ("at", 14)
        painting.hands[4] = ("at", 0)
        painting.names[6] = ("at", 0)
        self.assertIsNone(painting.unlike())

    def test_words_between_the_things_are_free(self):
        painting = small_painting()
        for a, word in ((0, ("head", 1, 2)), (1, ("number", 1)), (3, ("at", 50)), (13, ("moved", 99, 1))):
            painting.memory.put(a, word)
        self.assertIsNone(painting.unlike())

    def test_young_and_doomed_things_are_held(self):
        heap = IdealHeap(20, 100)
        heap.make(0, 1)
        heap.drop(0)
        self.assertIsNone(Painting(heap, 4, {0: 1}).unlike())
        self.assertEqual(first_unlike(heap, Memory(4), [None] * 8, [None] * 8, []), ("book",))
        heap = IdealHeap(0, 100)
        heap.make(0, 1)
        heap.drop(0)
        heap.begin()
        self.assertIsNone(Painting(heap, 4, {0: 1}).unlike())


class UnlikeBookTest(unittest.TestCase):
    def test_books_that_are_none_or_not_of_the_held_things(self):
        right = [(1, 10), (3, 2), (4, 4)]
        wrong = (
            [], [(1, 10), (3, 2)], [(1, 10), (4, 4)], [(3, 2), (4, 4)], right + [(5, 14)], [(0, 14)] + right,
            [(1, 10), (2, 14), (3, 2), (4, 4)], [(1, 10), (3, 2), (5, 4)], [(1, 10), (1, 10), (3, 2), (4, 4)],
            right + [(4, 4)], [(3, 2), (1, 10), (4, 4)], [(4, 4), (3, 2), (1, 10)], [(-1, 14)] + right,
            [(1, 10), (3, 2), (3, 14), (4, 4)],
        )
        for book in wrong:
            painting = small_painting()
            painting.book = book
            self.assertEqual(painting.unlike(), ("book",), book)

    def test_an_empty_heap_with_a_book(self):
        painting = Painting(IdealHeap(0, 7), 5, {})
        lay(painting.memory, 0, 0, [])
        painting.book = [(0, 0)]
        self.assertEqual(painting.unlike(), ("book",))


class UnlikeAddressTest(unittest.TestCase):
    def unlike_at(self, t, a):
        painting = small_painting()
        painting.book = [(u, a if u == t else b) for u, b in painting.book]
        return painting.unlike()

    def test_beyond_the_memory(self):
        for t, a in ((1, 18), (1, 20), (3, 20), (4, 17), (4, 21), (1, 10 ** 70)):
            self.assertEqual(self.unlike_at(t, a), ("address", t))
        for t, a in ((1, 17), (3, 19), (4, 16)):
            self.assertEqual(self.unlike_at(t, a), ("head", t))

    def test_below_nought(self):
        for t in (1, 3, 4):
            for a in (-2, -3, -20, -10 ** 70):
                self.assertEqual(self.unlike_at(t, a), ("address", t))
        self.assertEqual(self.unlike_at(1, -1), ("address", 1))

    def test_common_words(self):
        for t, a, least in ((3, 10, 1), (3, 11, 1), (3, 12, 1), (3, 5, 3), (3, 7, 3), (4, 12, 1), (4, 8, 1), (4, 2, 3),
                            (1, 0, 1), (1, 6, 1), (4, 10, 1), (4, -1, 3), (4, 0, 3)):
            expected = ("address", least)
            self.assertEqual(self.unlike_at(t, a), expected, (t, a))
        for t, a in ((3, 9), (3, 13), (4, 13), (4, 6), (1, 13)):
            self.assertEqual(self.unlike_at(t, a), ("head", t))

    def test_the_least_thing_of_several(self):
        painting = small_painting()
        painting.book = [(1, 10), (3, 25), (4, 9)]
        self.assertEqual(painting.unlike(), ("address", 1))
        painting.book = [(1, 10), (3, 25), (4, 30)]
        self.assertEqual(painting.unlike(), ("address", 3))
        painting.book = [(1, -5), (3, 10), (4, 10)]
        self.assertEqual(painting.unlike(), ("address", 1))


class UnlikeHeadTest(unittest.TestCase):
    def test_heads_that_are_not_the_things(self):
        heads = (("head", 3, 2), ("head", 1, 1), ("head", 1, 3), ("head", 0, 2), ("moved", 10, 2), ("moved", 2, 2),
                 None, ("number", 1), ("at", 10))
        for head in heads:
            painting = small_painting()
            painting.memory.put(10, head)
            self.assertEqual(painting.unlike(), ("head", 1), head)

    def test_a_thing_that_stands_elsewhere(self):
        painting = small_painting()
        lay(painting.memory, 14, 3, [])
        painting.memory.put(2, ("moved", 14, 0))
        self.assertEqual(painting.unlike(), ("head", 3))
        painting.book = [(1, 10), (3, 14), (4, 4)]
        self.assertIsNone(painting.unlike())

    def test_the_least_thing_of_several(self):
        painting = small_painting()
        painting.memory.put(4, None)
        painting.memory.put(2, None)
        self.assertEqual(painting.unlike(), ("head", 3))


UNLIKE_WORDS = (("number", 8), ("number", -7), ("at", 2), ("at", 4), ("at", 5), ("at", 0), ("at", -1), ("at", 20),
                ("at", 10 ** 70), ("head", 1, 2), ("moved", 10, 2), ("moved", 2, 0), None, ("number", 7), ("at", 10))


class UnlikeWordTest(unittest.TestCase):
    """Each place in turn gets each word: just the right ones are like."""

    def check(self, put, expected, right):
        for word in UNLIKE_WORDS:
            painting = small_painting()
            put(painting, word)
            self.assertEqual(painting.unlike(), None if word == right else expected, word)

    def test_fields(self):
        places = (((1, 0), ("at", 2)), ((1, 1), ("at", 10)), ((4, 0), None), ((4, 1), ("number", 7)), ((4, 2), ("at", 10)))
        for (t, k), right in places:
            def put(painting, word):
                painting.memory.put(painting.stands[t] + 1 + k, word)
            self.check(put, ("field", t, k), right)

    def test_hands(self):
        for h, right in ((0, ("at", 10)), (1, ("at", 2)), (2, ("at", 4)), (3, ("number", 7)), (4, ("at", 4)), (7, None)):
            def put(painting, word):
                painting.hands[h] = word
            self.check(put, ("hand", h), right)

    def test_names(self):
        for w, right in ((0, None), (1, ("at", 2)), (6, ("at", 4)), (7, None)):
            def put(painting, word):
                painting.names[w] = word
            self.check(put, ("name", w), right)

    def test_forwards_to_other_things_and_to_nothing(self):
        for b in (2, 0, 11, 20, -1):
            painting = small_painting()
            painting.memory.put(15, ("moved", b, 2))
            painting.memory.put(16, ("moved", 15, 2))
            for a in (15, 16):
                painting.hands[0] = ("at", a)
                self.assertEqual(painting.unlike(), ("hand", 0), (a, b))

    def test_an_address_beyond_where_none_is_due(self):
        painting = small_painting()
        painting.hands[5] = ("at", 20)
        self.assertEqual(painting.unlike(), ("hand", 5))
        painting.hands[5] = None
        painting.names[5] = ("at", -1)
        self.assertEqual(painting.unlike(), ("name", 5))


class FirstOfSeveralTest(unittest.TestCase):
    def test_each_kind_ahead_of_the_next(self):
        painting = small_painting()
        painting.names[6] = None
        painting.names[1] = ("number", 0)
        self.assertEqual(painting.unlike(), ("name", 1))
        painting.hands[7] = ("number", 0)
        self.assertEqual(painting.unlike(), ("hand", 7))
        painting.hands[2] = None
        self.assertEqual(painting.unlike(), ("hand", 2))
        painting.memory.put(7, None)
        self.assertEqual(painting.unlike(), ("field", 4, 2))
        painting.memory.put(5, ("number", 0))
        self.assertEqual(painting.unlike(), ("field", 4, 0))
        painting.memory.put(12, ("number", 0))
        self.assertEqual(painting.unlike(), ("field", 1, 1))
        painting.memory.put(4, None)
        self.assertEqual(painting.unlike(), ("head", 4))
        painting.book[1] = (3, 20)
        self.assertEqual(painting.unlike(), ("address", 3))
        painting.book[0] = (2, 10)
        self.assertEqual(painting.unlike(), ("book",))


class AskedAlikeTest(unittest.TestCase):
    """6.2: what is asked of hands is told by the picture's words alone."""

    def answers(self, painting):
        memory, hands = painting.memory, painting.hands

        def place(word):
            a = word[1]
            while memory.at(a)[0] == "moved":
                a = memory.at(a)[1]
            return a
        told = []
        for word in hands:
            if word is None or word[0] == "number":
                told.append(word)
            else:
                told.append(("fields", memory.at(place(word))[2]))
        plain = [("at", place(word)) if word is not None and word[0] == "at" else word for word in hands]
        return told, [[a == b for a in plain] for b in plain]

    def ideal_answers(self, heap):
        told = []
        for h in range(8):
            if heap.kind(h) == "thing":
                told.append(("fields", heap.fields(h)))
            else:
                told.append(("number", heap.value(h)) if heap.kind(h) == "number" else None)
        return told, [[heap.same(h, g) for g in range(8)] for h in range(8)]

    def dealt_heap(self, dealer):
        heap = IdealHeap(0, 400)
        for _ in range(dealer.randrange(3, 12)):
            heap.make(dealer.randrange(8), dealer.randrange(4))
            heap.number(dealer.randrange(8), dealer.randrange(2))
            h, g = dealer.randrange(8), dealer.randrange(8)
            if heap.kind(g) == "thing" and heap.fields(g) > 0:
                heap.store(g, dealer.randrange(heap.fields(g)), h)
            heap.copy(h, g)
        heap.begin()
        heap.end()
        return heap

    def dealt_painting(self, heap, dealer):
        things = heap.things()
        dealer.shuffle(things)
        stands, a = {}, dealer.randrange(3)
        for t in things:
            stands[t] = a
            a += len(heap.fields_of(t)) + 1 + dealer.randrange(3)
        painting = Painting(heap, a + 8, stands)
        for i, h in enumerate(h for h in range(8) if heap.kind(h) == "thing"):
            painting.memory.put(a + i, ("moved", painting.hands[h][1], 0))
            if dealer.randrange(2):
                painting.hands[h] = ("at", a + i)
        return painting

    def test_two_pictures_of_one_heap_answer_as_it_does(self):
        for seed in range(40):
            dealer = random.Random(seed)
            heap = self.dealt_heap(dealer)
            first, second = self.dealt_painting(heap, dealer), self.dealt_painting(heap, dealer)
            for painting in (first, second):
                self.assertIsNone(painting.unlike())
                self.assertEqual(self.answers(painting), self.ideal_answers(heap))

    def test_dealt_words_amiss(self):
        for seed in range(60):
            dealer = random.Random(seed)
            heap = self.dealt_heap(dealer)
            painting = self.dealt_painting(heap, dealer)
            if not painting.book:
                continue
            t, a = dealer.choice(painting.book)
            k = dealer.randrange(len(heap.fields_of(t)) + 1)
            painting.memory.put(a + k, ("number", 99))
            self.assertEqual(painting.unlike(), ("head", t) if k == 0 else ("field", t, k - 1))


if __name__ == "__main__":
    unittest.main()
