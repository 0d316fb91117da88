import unittest

from stillheap.errors import BadAddress
from stillheap.memory import Memory

WORDS = (None, ("number", -3), ("at", 2), ("head", 0, 6), ("moved", 4, 0))


class MemoryTest(unittest.TestCase):
    def test_all_none_at_first(self):
        for size in (0, 1, 7, 5000):
            memory = Memory(size)
            self.assertEqual(memory.size(), size)
            self.assertEqual([memory.at(a) for a in range(size)], [None] * size)

    def test_words_put_and_looked_at(self):
        memory = Memory(len(WORDS))
        for a, word in enumerate(WORDS):
            self.assertIsNone(memory.put(a, word))
        self.assertEqual([memory.at(a) for a in range(len(WORDS))], list(WORDS))
        memory.put(1, None)
        self.assertIsNone(memory.at(1))
        self.assertEqual(memory.size(), len(WORDS))

    def test_addresses_at_the_edges(self):
        for size in (0, 1, 5):
            memory = Memory(size)
            for a in (-1, size, -size - 1, 10 ** 70):
                with self.assertRaises(BadAddress):
                    memory.at(a)
                with self.assertRaises(BadAddress):
                    memory.put(a, ("number", 1))
            self.assertEqual([memory.at(a) for a in range(size)], [None] * size)

    def test_first_and_last_address(self):
        memory = Memory(5)
        memory.put(0, ("number", 1))
        memory.put(4, ("number", 2))
        self.assertEqual([memory.at(0), memory.at(4)], [("number", 1), ("number", 2)])

    def test_a_copy_is_a_memory_of_its_own(self):
        memory = Memory(3)
        memory.put(1, ("number", 1))
        other = memory.copy_of()
        self.assertIsInstance(other, Memory)
        self.assertEqual((other.size(), other.at(0), other.at(1)), (3, None, ("number", 1)))
        other.put(0, ("at", 2))
        memory.put(2, ("at", 0))
        self.assertEqual([memory.at(a) for a in range(3)], [None, ("number", 1), ("at", 0)])
        self.assertEqual([other.at(a) for a in range(3)], [("at", 2), ("number", 1), None])


if __name__ == "__main__":
    unittest.main()
