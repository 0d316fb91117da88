import unittest

from stillheap.weaknames import NameTable
from tests.helpers import refusal


class NameTableTest(unittest.TestCase):
    def table(self):
        table = NameTable()
        for w, t in ((0, 4), (2, 9), (3, 4), (5, 0), (7, 9)):
            self.assertIsNone(table.name(w, t))
        return table

    def test_nothing_is_named_at_first(self):
        table = NameTable()
        self.assertEqual(table.all_named(), [None] * 8)
        self.assertEqual([table.named(w) for w in range(8)], [None] * 8)

    def test_names_are_kept_each_for_itself(self):
        table = self.table()
        self.assertEqual(table.all_named(), [4, None, 9, 4, None, 0, None, 9])
        self.assertEqual([table.named(w) for w in range(8)], table.all_named())
        self.assertEqual(NameTable().all_named(), [None] * 8)

    def test_naming_anew_and_naming_none(self):
        table = self.table()
        table.name(0, 7)
        table.name(5, None)
        table.name(1, None)
        self.assertEqual(table.all_named(), [7, None, 9, 4, None, None, None, 9])

    def test_the_edges(self):
        table = self.table()
        table.name(0, 1)
        table.name(7, 2)
        self.assertEqual((table.named(0), table.named(7)), (1, 2))
        before = table.all_named()
        for w in (-1, 8, -8, 10 ** 60):
            self.assertEqual(refusal(table.name, w, 3), "BadName", w)
            self.assertEqual(refusal(table.name, w, None), "BadName", w)
            self.assertEqual(refusal(table.named, w), "BadName", w)
        self.assertEqual(table.all_named(), before)

    def test_settling_things_named_once_twice_and_not_at_all(self):
        cases = (
            ([0], [4, None, 9, 4, None, None, None, 9]),
            ([9], [4, None, None, 4, None, 0, None, None]),
            ([3, 17], [4, None, 9, 4, None, 0, None, 9]),
            ([], [4, None, 9, 4, None, 0, None, 9]),
            ([9, 0, 4], [None] * 8),
            ([4, 4, 1], [None, None, 9, None, None, 0, None, 9]),
        )
        for things, left in cases:
            table = self.table()
            given = list(things)
            self.assertIsNone(table.settle(given))
            self.assertEqual((table.all_named(), given), (left, things))

    def test_a_settled_name_names_again(self):
        table = self.table()
        table.settle([4])
        table.name(3, 4)
        self.assertEqual(table.all_named(), [None, None, 9, 4, None, 0, None, 9])

    def test_what_is_told_is_the_askers_own(self):
        table = self.table()
        table.all_named()[0] = 77
        self.assertEqual(table.all_named(), [4, None, 9, 4, None, 0, None, 9])


if __name__ == "__main__":
    unittest.main()
