import unittest

from stillheap.lastwords import WordTable
from tests.helpers import refusal


def table_of(pairs):
    table = WordTable()
    for t, x in pairs:
        table.bear(t, x)
    return table


def standing(table):
    return ([(t, table.word_of(t)) for t in table.bearers()], table.said())


class WordTableTest(unittest.TestCase):
    def test_an_empty_table(self):
        table = WordTable()
        self.assertEqual((table.bearers(), table.said(), table.word_of(0)), ([], [], None))
        self.assertIsNone(table.take())
        self.assertIsNone(table.settle([]))
        self.assertIsNone(table.settle([0, 3]))
        self.assertEqual(standing(table), ([], []))

    def test_words_are_borne(self):
        table = WordTable()
        self.assertIsNone(table.bear(7, -3))
        table.bear(2, 0)
        table.bear(5, 10 ** 60)
        self.assertEqual(standing(table), ([(2, 0), (5, 10 ** 60), (7, -3)], []))
        self.assertIsNone(table.word_of(3))

    def test_another_word_in_the_stead_of_the_first(self):
        table = table_of([(7, 1), (2, 0), (7, 5), (2, 6)])
        self.assertEqual(standing(table), ([(2, 6), (7, 5)], []))

    def test_twelve_bearers_and_a_thirteenth(self):
        table = table_of([(t, t) for t in range(12)])
        before = standing(table)
        self.assertEqual(len(before[0]), 12)
        self.assertEqual(refusal(table.bear, 12, 0), "TooManyWords")
        self.assertEqual(standing(table), before)
        self.assertIsNone(table.word_of(12))

    def test_a_bearer_gets_another_word_while_there_are_twelve(self):
        table = table_of([(t, t) for t in range(12)])
        for t in (0, 5, 11):
            table.bear(t, 100 + t)
        self.assertEqual([table.word_of(t) for t in (0, 5, 11)], [100, 105, 111])
        self.assertEqual(len(table.bearers()), 12)

    def test_a_word_of_nought_is_one(self):
        table = table_of([(t, 0) for t in range(12)])
        self.assertEqual(refusal(table.bear, 12, 1), "TooManyWords")
        table.bear(3, 0)

    def test_room_again_behind_a_settling(self):
        table = table_of([(t, t) for t in range(12)])
        table.settle([4, 90])
        table.bear(12, 3)
        self.assertEqual(refusal(table.bear, 4, 3), "TooManyWords")
        self.assertEqual(table.bearers(), [0, 1, 2, 3, 5, 6, 7, 8, 9, 10, 11, 12])

    def test_words_said_are_not_borne_and_do_not_count(self):
        table = WordTable()
        for t in range(40):
            table.bear(t, t)
            table.settle([t])
        self.assertEqual(standing(table), ([], list(range(40))))


class SettlingTest(unittest.TestCase):
    def test_in_the_order_of_making_whatever_the_order_told(self):
        for things in ([3, 8, 20], [20, 3, 8], [8, 20, 3], [20, 8, 3]):
            table = table_of([(8, 1), (20, 2), (3, 3), (9, 4)])
            given = list(things)
            self.assertIsNone(table.settle(given))
            self.assertEqual(standing(table), ([(9, 4)], [3, 1, 2]))
            self.assertEqual(given, things)

    def test_behind_all_that_were_said_before(self):
        table = table_of([(8, 1), (20, 2), (3, 3)])
        table.settle([20])
        table.settle([8])
        table.settle([3])
        self.assertEqual(table.said(), [2, 1, 3])

    def test_things_that_bear_none(self):
        table = table_of([(8, 1)])
        table.settle([0, 9, 7])
        self.assertEqual(standing(table), ([(8, 1)], []))
        table.settle([9, 8, 0])
        self.assertEqual(standing(table), ([], [1]))

    def test_a_thing_is_settled_once(self):
        table = table_of([(8, 1)])
        table.settle([8, 8])
        table.settle([8])
        self.assertEqual(standing(table), ([], [1]))
        self.assertIsNone(table.word_of(8))


class TakingTest(unittest.TestCase):
    def test_in_order_then_none(self):
        table = table_of([(1, 5), (2, 0), (3, 5)])
        table.settle([3, 2, 1])
        self.assertEqual([table.take() for _ in range(5)], [5, 0, 5, None, None])
        self.assertEqual(table.said(), [])

    def test_taken_words_are_said_no_more(self):
        table = table_of([(1, 5), (2, 6), (3, 7)])
        table.settle([1, 2])
        self.assertEqual(table.take(), 5)
        self.assertEqual(table.said(), [6])
        table.settle([3])
        self.assertEqual(table.said(), [6, 7])
        self.assertEqual([table.take(), table.take(), table.take()], [6, 7, None])

    def test_what_is_borne_is_not_taken(self):
        table = table_of([(1, 5)])
        self.assertIsNone(table.take())
        self.assertEqual(standing(table), ([(1, 5)], []))

    def test_what_is_told_is_the_askers_own(self):
        table = table_of([(1, 5), (2, 6)])
        table.settle([2])
        table.said().append(1)
        table.bearers().append(3)
        self.assertEqual(standing(table), ([(1, 5)], [6]))


if __name__ == "__main__":
    unittest.main()
