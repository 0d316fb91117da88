import random
import unittest

from stillheap.copying import copied, copied_words
from stillheap.layout import lay, thing_at
from stillheap.memory import Memory
from tests.helpers import at, laid_out, memory_of, refusal, words

FIVE = ("number", 5)


class OrderTest(unittest.TestCase):
    def tree(self):
        """Things by twos: 0 tells 1 and 2, 1 tells 3, 2 tells 4; 5 tells 0 and nothing leads to it."""
        return laid_out(40, [
            (30, 0, [at(20), FIVE, at(10)]), (20, 1, [at(0)]), (10, 2, [None, at(5)]),
            (0, 3, []), (5, 4, []), (24, 5, [at(30)]),
        ])

    def test_things_are_met_field_by_field_in_the_order_of_copying(self):
        source, target = self.tree(), Memory(40)
        roots = [None, at(30), FIVE]
        told = copied(source, target, 3, roots)
        self.assertEqual(told, ([None, at(3), FIVE], [(30, 3), (20, 7), (10, 9), (0, 12), (5, 13)]))
        self.assertEqual(roots, [None, at(30), FIVE])
        self.assertEqual(words(target), [None] * 3 + [
            ("head", 0, 3), at(7), FIVE, at(9), ("head", 1, 1), at(12), ("head", 2, 2), None, at(13),
            ("head", 3, 0), ("head", 4, 0),
        ] + [None] * 26)

    def test_roots_in_order_ahead_of_all_fields(self):
        source, target = self.tree(), Memory(40)
        told = copied(source, target, 0, [at(10), at(0), at(30)])
        self.assertEqual(told, (
            [at(0), at(3), at(4)], [(10, 0), (0, 3), (30, 4), (5, 8), (20, 9)]))

    def test_roots_and_things_told_twice(self):
        source, target = self.tree(), Memory(40)
        told = copied(source, target, 0, [at(20), at(0), at(20), None, at(0)])
        self.assertEqual(told, ([at(0), at(2), at(0), None, at(2)], [(20, 0), (0, 2)]))
        source = laid_out(9, [(0, 7, [at(4), at(4), at(4)]), (4, 8, [FIVE])])
        target = Memory(6)
        self.assertEqual(copied(source, target, 0, [at(0)]), ([at(0)], [(0, 0), (4, 4)]))
        self.assertEqual(words(target), [("head", 7, 3), at(4), at(4), at(4), ("head", 8, 1), FIVE])

    def test_rings_and_a_thing_that_tells_itself(self):
        source = laid_out(10, [(0, 0, [at(2)]), (2, 1, [at(4)]), (4, 2, [at(0)]), (6, 3, [at(6), None])])
        target = Memory(9)
        self.assertEqual(copied(source, target, 0, [at(4), at(6)]), ([at(0), at(2)], [(4, 0), (6, 2), (0, 5), (2, 7)]))
        self.assertEqual(words(target), [
            ("head", 2, 1), at(5), ("head", 3, 2), at(2), None, ("head", 0, 1), at(7), ("head", 1, 1), at(0)])

    def test_things_that_no_root_leads_to_stay(self):
        source, target = self.tree(), Memory(40)
        copied(source, target, 0, [at(20)])
        self.assertEqual(thing_at(source, 24), (5, [at(30)]))
        self.assertEqual(thing_at(source, 30), (0, [at(20), FIVE, at(10)]))


class ForwardTest(unittest.TestCase):
    def test_forwards_are_left_and_nothing_else_is_changed(self):
        source = laid_out(12, [(0, 9, [at(6), FIVE]), (3, 4, [at(0)]), (6, 5, [None] * 3)])
        source.put(10, ("moved", 77, 2))
        source.put(11, ("number", 3))
        before = words(source)
        target = memory_of([("number", i) for i in range(20)])
        told = copied(source, target, 5, [at(0)])
        self.assertEqual(told[1], [(0, 5), (6, 8)])
        before[0] = ("moved", 5, 2)
        before[6] = ("moved", 8, 3)
        self.assertEqual(words(source), before)
        expected = [("number", i) for i in range(20)]
        expected[5:12] = [("head", 9, 2), at(8), FIVE, ("head", 5, 3), None, None, None]
        self.assertEqual(words(target), expected)

    def test_a_forward_met_again_is_refused(self):
        source, target = laid_out(4, [(0, 1, []), (1, 2, [at(0)])]), Memory(9)
        copied(source, target, 0, [at(0)])
        before = words(source)
        self.assertEqual(refusal(copied, source, target, 4, [at(0)]), "BadAddress")
        self.assertEqual(refusal(copied, source, target, 4, [at(1)]), "BadAddress")
        self.assertEqual(refusal(copied_words, source, [at(1)]), "BadAddress")
        self.assertEqual(words(source), before)


class RefusalTest(unittest.TestCase):
    def assert_refused(self, source, target, first, roots, name):
        before = (words(source), words(target), list(roots))
        self.assertEqual(refusal(copied, source, target, first, roots), name, (first, roots))
        self.assertEqual((words(source), words(target), roots), before)

    def source(self):
        source = laid_out(12, [(0, 0, [at(3), None]), (3, 1, [FIVE]), (5, 2, [])])
        for a, word in ((6, ("moved", 5, 0)), (7, FIVE), (8, at(0)), (11, ("head", 3, 1))):
            source.put(a, word)
        return source

    def test_roots_that_tell_no_thing(self):
        for a in (1, 2, 4, 6, 7, 8, 9, 11, 12, -1, -12, 10 ** 70):
            for roots in ([at(a)], [at(0), at(a)], [at(a), at(5)]):
                self.assert_refused(self.source(), Memory(40), 0, roots, "BadAddress")
                self.assertEqual(refusal(copied_words, self.source(), roots), "BadAddress")

    def test_met_fields_that_tell_no_thing(self):
        for a in (1, 2, 4, 6, 7, 8, 9, 11, 12, -1, -12, 10 ** 70):
            source = self.source()
            source.put(4, at(a))
            self.assert_refused(source, Memory(40), 0, [at(0)], "BadAddress")
            self.assertEqual(refusal(copied_words, source, [at(5), at(0)]), "BadAddress")
            self.assertEqual(copied_words(source, [at(5)]), 1)

    def test_met_fields_that_are_heads_or_forwards(self):
        for word in (("head", 7, 0), ("moved", 5, 0), ("moved", 0, 2)):
            source = self.source()
            source.put(4, word)
            self.assert_refused(source, Memory(40), 0, [at(0)], "BadAddress")

    def test_fields_that_are_not_met_are_not_looked_at(self):
        source = self.source()
        source.put(4, at(99))
        self.assertEqual(copied(source, Memory(1), 0, [at(5)]), ([at(0)], [(5, 0)]))

    def test_room_just_enough_and_one_word_less(self):
        for first in (0, 4):
            source, target = self.source(), Memory(first + 6)
            told = copied(source, target, first, [at(0), at(5)])
            self.assertEqual(told[1], [(0, first), (5, first + 3), (3, first + 4)])
            self.assert_refused(self.source(), Memory(first + 5), first, [at(0), at(5)], "NoRoom")
            self.assert_refused(self.source(), Memory(first + 6), first + 1, [at(0), at(5)], "NoRoom")
        self.assert_refused(self.source(), Memory(3), 9, [at(5)], "NoRoom")
        self.assert_refused(self.source(), Memory(0), 0, [at(5)], "NoRoom")

    def test_a_bad_address_goes_ahead_of_no_room(self):
        self.assert_refused(self.source(), Memory(0), 0, [at(0), at(7)], "BadAddress")
        source = self.source()
        source.put(4, at(6))
        self.assert_refused(source, Memory(0), 0, [at(0)], "BadAddress")

    def test_for_nothing_there_is_always_room(self):
        for size, first in ((0, 0), (0, 9), (3, 3), (3, 70)):
            for roots in ([], [None], [FIVE, None]):
                target = Memory(size)
                self.assertEqual(copied(self.source(), target, first, roots), (roots, []))
                self.assertEqual(words(target), [None] * size)

    def test_what_is_told_is_the_askers_own(self):
        roots = [None, FIVE]
        told = copied(self.source(), Memory(0), 0, roots)
        told[0].append(1)
        self.assertEqual(roots, [None, FIVE])


class CopiedWordsTest(unittest.TestCase):
    def test_counted_and_nothing_changed(self):
        source = laid_out(20, [(0, 0, [at(3), at(5)]), (3, 1, [at(0)]), (5, 2, []), (10, 3, [None] * 6)])
        before = words(source)
        cases = (([], 0), ([None, FIVE], 0), ([at(5)], 1), ([at(5), at(5)], 1), ([at(0)], 6), ([at(3)], 6),
                 ([at(10), at(5)], 8), ([at(10), at(3)], 13))
        for roots, many in cases:
            given = list(roots)
            self.assertEqual(copied_words(source, given), many)
            self.assertEqual((words(source), given), (before, roots))


def dealt_memory(dealer):
    """Things one behind another with gaps, each telling any of them; a list of their addresses."""
    sizes = [dealer.randrange(7) for _ in range(dealer.randrange(1, 15))]
    firsts, a = [], dealer.randrange(4)
    for n in sizes:
        firsts.append(a)
        a += n + 1 + dealer.randrange(3)
    memory = Memory(a + 5)
    numbers = dealer.sample(range(50), len(sizes))
    for first, t, n in zip(firsts, numbers, sizes):
        told = [dealer.choice([None, ("number", dealer.randrange(9)), at(dealer.choice(firsts))]) for _ in range(n)]
        lay(memory, first, t, told)
    return memory, firsts


class DealtTest(unittest.TestCase):
    def shape(self, memory, roots):
        """What the roots lead to, as numbers of making alone."""
        told, met = [], {}
        todo = [word[1] for word in roots if word is not None and word[0] == "at"]
        while todo:
            a = todo.pop()
            if a not in met:
                t, fields = thing_at(memory, a)
                met[a] = t
                todo.extend(word[1] for word in fields if word is not None and word[0] == "at")
                told.append((t, [self.plain(memory, word) for word in fields]))
        return sorted(told), [self.plain(memory, word) for word in roots]

    def plain(self, memory, word):
        return thing_at(memory, word[1])[0] if word is not None and word[0] == "at" else (word,)

    def test_copies_and_copies_of_copies(self):
        for seed in range(60):
            dealer = random.Random(seed)
            source, firsts = dealt_memory(dealer)
            roots = [dealer.choice([None, FIVE, at(dealer.choice(firsts))]) for _ in range(dealer.randrange(5))]
            shape, before = self.shape(source, roots), words(source)
            many, first = copied_words(source, roots), dealer.randrange(5)
            target = Memory(first + many)
            news, pairs = copied(source, target, first, roots)
            self.assertEqual(self.shape(target, news), shape)
            heads = dict(pairs)
            self.assertEqual([a for a in range(len(before)) if words(source)[a] != before[a]], sorted(heads))
            for a, b in pairs:
                self.assertEqual(source.at(a), ("moved", b, before[a][2]))
            self.assertEqual(words(target)[:first], [None] * first)
            again = Memory(first + many)
            laid = words(target)
            twice, same = copied(target, again, first, news)
            self.assertEqual((words(again), twice), (laid, news))
            self.assertEqual(same, [(b, b) for a, b in pairs])


if __name__ == "__main__":
    unittest.main()
