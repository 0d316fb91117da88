import unittest

from stillheap.books import address_in, book_of, is_book
from stillheap.layout import move
from stillheap.memory import Memory
from tests.helpers import laid_out, memory_of, refusal, words


class BookOfTest(unittest.TestCase):
    def memory(self):
        return laid_out(30, [(0, 5, [None, ("at", 7)]), (3, 2, []), (7, 9, [("number", 3)]), (28, 0, [None])])

    def test_things_at_addresses_in_any_order(self):
        memory = self.memory()
        before = words(memory)
        firsts = [7, 28, 0, 3]
        self.assertEqual(book_of(memory, firsts), [(0, 28), (2, 3), (5, 0), (9, 7)])
        self.assertEqual(book_of(memory, [3]), [(2, 3)])
        self.assertEqual((words(memory), firsts), (before, [7, 28, 0, 3]))

    def test_no_addresses_at_all(self):
        self.assertEqual(book_of(self.memory(), []), [])
        self.assertEqual(book_of(Memory(0), []), [])

    def test_an_address_met_twice_counts_once(self):
        self.assertEqual(book_of(self.memory(), [3, 0, 3, 3]), [(2, 3), (5, 0)])

    def test_forwards_are_resolved(self):
        memory = self.memory()
        move(memory, 0, 10)
        self.assertEqual(book_of(memory, [0]), [(5, 10)])
        move(memory, 10, 20)
        self.assertEqual(book_of(memory, [7, 0]), [(5, 20), (9, 7)])

    def test_a_thing_met_by_forwards_and_by_itself_counts_once(self):
        memory = self.memory()
        move(memory, 0, 10)
        move(memory, 10, 20)
        self.assertEqual(book_of(memory, [20, 10, 0, 10]), [(5, 20)])

    def test_no_thing_there(self):
        memory = self.memory()
        memory.put(15, ("number", 4))
        memory.put(16, ("at", 3))
        for a in (1, 2, 4, 15, 16, 29):
            self.assertEqual(refusal(book_of, memory, [a]), "BadAddress", a)
            self.assertEqual(refusal(book_of, memory, [3, a, 0]), "BadAddress", a)

    def test_beyond_the_memory(self):
        for a in (-1, 30, 31, -30, 10 ** 70):
            self.assertEqual(refusal(book_of, self.memory(), [a]), "BadAddress", a)
        self.assertEqual(refusal(book_of, Memory(0), [0]), "BadAddress")

    def test_forwards_that_lead_to_none(self):
        memory = self.memory()
        for b in (1, 4, 30, -1):
            memory.put(20, ("moved", b, 0))
            memory.put(21, ("moved", 20, 0))
            for a in (20, 21):
                self.assertEqual(refusal(book_of, memory, [a]), "BadAddress", (a, b))

    def test_a_head_whose_fields_are_beyond_the_memory(self):
        memory = memory_of([None, ("head", 4, 1)])
        self.assertEqual(refusal(book_of, memory, [1]), "BadAddress")
        memory = memory_of([("moved", 1, 1), ("head", 4, 1)])
        self.assertEqual(refusal(book_of, memory, [0]), "BadAddress")

    def test_the_book_is_the_askers_own(self):
        memory = self.memory()
        book = book_of(memory, [0, 3])
        book.append((7, 7))
        self.assertEqual(book_of(memory, [0, 3]), [(2, 3), (5, 0)])


class AddressInTest(unittest.TestCase):
    def test_things_of_the_book_and_others(self):
        book = [(0, 28), (2, 3), (5, 0)]
        self.assertEqual([address_in(book, t) for t in (0, 2, 5)], [28, 3, 0])
        self.assertEqual([address_in(book, t) for t in (1, 3, 28, -1, 6)], [None] * 5)
        self.assertEqual(book, [(0, 28), (2, 3), (5, 0)])

    def test_the_empty_book(self):
        self.assertIsNone(address_in([], 0))


class IsBookTest(unittest.TestCase):
    def test_ascending_lists(self):
        for book in ([], [(4, 0)], [(0, 9), (1, 3)], [(0, 1), (7, 1), (9, 0)], [(-3, -1), (0, 4)]):
            self.assertIs(is_book(book), True, book)

    def test_like_numbers(self):
        for book in ([(1, 0), (1, 3)], [(1, 0), (1, 0)], [(0, 0), (2, 3), (2, 9)], [(0, 1), (0, 2), (5, 3)]):
            self.assertIs(is_book(book), False, book)

    def test_numbers_that_fall(self):
        for book in ([(1, 0), (0, 3)], [(0, 0), (2, 3), (1, 9)], [(3, 0), (1, 1), (2, 2)], [(5, 1), (1, 2), (9, 3)]):
            self.assertIs(is_book(book), False, book)


if __name__ == "__main__":
    unittest.main()
