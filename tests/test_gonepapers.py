import copy
import itertools
import random
import unittest

from stillheap.gonepapers import round_judged, round_paper
from stillheap.ideal import IdealHeap
from stillheap.reach import view_of
from tests.helpers import NO_VIEWS, dealt_view, led_by, refusal

# 9 and 11 are a ring that nothing leads to, 41 tells it; 2 and 5 are a ring that root 1 reaches.
VIEW = ([None, 5], {2: [None, 5], 5: [2], 9: [11], 11: [9, 2], 30: [], 41: [None, 9]})


def kept_by(view, read):
    """All that the roots and the things read back lead to, by whole passes."""
    return sorted(led_by(
        [t for t in view[0] if t is not None] + list(read), lambda t: [u for u in view[1][t] if u is not None]))


def shows(view, read, paper):
    """Points 3.3 and 11.2, said over whole lists."""
    roots = list(view[0]) + sorted(set(read))
    for at, (thing, origin, place) in enumerate(paper[0]):
        ahead = [triple[0] for triple in paper[0][:at]]
        if thing is None or thing in ahead or (origin is not None and origin not in ahead):
            return False
        told = roots if origin is None else view[1][origin]
        if (place, thing) not in list(enumerate(told)):
            return False
    kept = kept_by(view, read)
    return sorted(triple[0] for triple in paper[0]) == kept and paper[1] == [t for t in sorted(view[1]) if t not in kept]


def dealt_read(dealer, view):
    return [dealer.choice(sorted(view[1])) for _ in range(dealer.randrange(4))]


class PaperTest(unittest.TestCase):
    def test_papers(self):
        self.assertEqual(round_paper(VIEW, []), ([(5, None, 1), (2, 5, 0)], [9, 11, 30, 41]))
        self.assertEqual(round_paper(VIEW, [9]), ([(5, None, 1), (9, None, 2), (2, 5, 0), (11, 9, 0)], [30, 41]))
        self.assertEqual(round_paper(VIEW, [30]), ([(5, None, 1), (30, None, 2), (2, 5, 0)], [9, 11, 41]))

    def test_read_back_in_any_order_and_twice(self):
        expected = round_paper(VIEW, [30, 41])
        self.assertEqual(expected[0][:3], [(5, None, 1), (30, None, 2), (41, None, 3)])
        for read in ([41, 30], [30, 41, 30], [41, 41, 30, 30]):
            self.assertEqual(round_paper(VIEW, read), expected)
            self.assertIs(round_judged(VIEW, read, expected), True)

    def test_read_back_what_roots_reach_already(self):
        self.assertEqual(round_paper(VIEW, [5]), ([(5, None, 1), (2, 5, 0)], [9, 11, 30, 41]))
        self.assertEqual(round_paper(VIEW, [2]), ([(5, None, 1), (2, None, 2)], [9, 11, 30, 41]))

    def test_small_views(self):
        for view, read, paper in (
            (([], {}), [], ([], [])),
            (([None], {}), [], ([], [])),
            (([None, None], {3: [3]}), [], ([], [3])),
            (([], {3: [3], 0: [3]}), [], ([], [0, 3])),
            (([], {3: [3], 0: [3]}), [0], ([(0, None, 0), (3, 0, 0)], [])),
            (([4, 4], {4: []}), [4], ([(4, None, 0)], [])),
        ):
            self.assertEqual(round_paper(view, read), paper)
            self.assertIs(round_judged(view, read, paper), True)

    def test_dealt_views(self):
        for seed in range(400):
            dealer = random.Random(seed)
            view = dealt_view(dealer)
            read = dealt_read(dealer, view)
            paper = round_paper(view, read)
            self.assertIsInstance(paper, tuple)
            self.assertTrue(shows(view, read, paper), (view, read, paper))
            self.assertIs(round_judged(view, read, paper), True)

    def test_what_it_tells_went_from_an_ideal_heap(self):
        for seed in range(60):
            dealer = random.Random(seed)
            heap = IdealHeap(0, 60)
            for t in range(8):
                heap.make(t % 8, 2)
                heap.store(t, dealer.randrange(2), dealer.randrange(t + 1))
                heap.name(t, t)
            for h in dealer.sample(range(8), 6):
                heap.drop(h)
            heap.begin()
            view, read = view_of(heap), []
            for w in dealer.sample(range(8), dealer.randrange(3)):
                heap.read(0, w)
                read.append(w)
            before = heap.things()
            heap.end()
            paper = round_paper(view, read)
            self.assertEqual(paper[1], [t for t in before if t not in heap.things()])


class JudgedTest(unittest.TestCase):
    def assert_not(self, read, paper):
        self.assertIs(round_judged(VIEW, read, paper), False, (read, paper))

    def test_papers_of_whomever(self):
        gone = [30, 41]
        for triples in (
            [(5, None, 1), (9, None, 2), (2, 5, 0), (11, 9, 0)],
            [(9, None, 2), (11, 9, 0), (2, 11, 1), (5, 2, 1)],
            [(9, None, 2), (5, None, 1), (11, 9, 0), (2, 11, 1)],
        ):
            self.assertIs(round_judged(VIEW, [9], (triples, gone)), True, triples)

    def test_triples_put_otherwise(self):
        paper = round_paper(VIEW, [9])
        for at in range(4):
            triples = list(paper[0])
            self.assert_not([9], (triples[:at] + triples[at + 1:], paper[1]))
            self.assert_not([9], (triples + [triples[at]], paper[1]))
            self.assert_not([9], (triples[:at] + [triples[at]] + triples[at:], paper[1]))
            thing, origin, place = triples[at]
            for other in ((30, origin, place), (None, origin, place), (-1, origin, place), (77, origin, place),
                          (thing, 30, place), (thing, 77, place), (thing, -1, place), (thing, thing, place),
                          (thing, origin, None), (thing, origin, -1), (thing, origin, place + 1),
                          (thing, origin, 10 ** 60), (thing, origin, -10 ** 60)):
                self.assert_not([9], (triples[:at] + [other] + triples[at + 1:], paper[1]))

    def test_triples_exchanged(self):
        paper = round_paper(VIEW, [9])
        for order in itertools.permutations(paper[0]):
            order = list(order)
            self.assertIs(round_judged(VIEW, [9], (order, paper[1])), shows(VIEW, [9], (order, paper[1])), order)

    def test_a_triple_for_the_place_of_another_root(self):
        self.assert_not([], ([(5, None, 0), (2, 5, 0)], [9, 11, 30, 41]))
        self.assert_not([5], ([(5, None, 3), (2, 5, 0)], [9, 11, 30, 41]))
        self.assertIs(round_judged(VIEW, [5, 5], ([(5, None, 2), (2, 5, 0)], [9, 11, 30, 41])), True)
        self.assertIs(round_judged(VIEW, [30, 9], ([(5, None, 1), (2, 5, 0), (30, None, 3), (9, None, 2), (11, 9, 0)], [41])), True)
        self.assert_not([30, 9], ([(5, None, 1), (2, 5, 0), (30, None, 2), (9, None, 3), (11, 9, 0)], [41]))

    def test_what_went_put_otherwise(self):
        triples, gone = round_paper(VIEW, [])
        for other in ([], [9, 11, 30], [11, 30, 41], [9, 11, 41], [2, 9, 11, 30, 41], [9, 11, 30, 41, 50], [-1, 9, 11, 30, 41],
                      [9, 11, 30, 41, 41], [9, 11, 41, 30], [41, 30, 11, 9], [9, 11, 30, 40]):
            self.assert_not([], (triples, other))

    def test_another_rounds_paper(self):
        self.assert_not([], round_paper(VIEW, [9]))
        self.assert_not([9], round_paper(VIEW, []))
        self.assert_not([9], round_paper(VIEW, [30]))

    def test_dealt_papers(self):
        judged = []
        for seed in range(600):
            dealer = random.Random(seed)
            view = dealt_view(dealer)
            read = dealt_read(dealer, view)
            triples, gone = round_paper(view, read)
            for _ in range(dealer.randrange(2)):
                told = list(view[1]) + [None, -1, 77]
                at = dealer.randrange(len(triples) + 1)
                deed = dealer.randrange(4)
                if deed == 0:
                    triples[at:at + 1] = []
                elif deed == 1:
                    triples.insert(at, (dealer.choice(told), dealer.choice(told), dealer.choice([None, 0, 1, 2])))
                elif deed == 2 and triples:
                    triples.append(triples.pop(0))
                elif gone:
                    gone.pop(dealer.randrange(len(gone)))
            judged.append(round_judged(view, read, (triples, gone)))
            self.assertIs(judged[-1], shows(view, read, (triples, gone)), (view, read, triples, gone))
        self.assertIn(True, judged)
        self.assertIn(False, judged)


class RefusedTest(unittest.TestCase):
    def test_views_that_are_none(self):
        for view in NO_VIEWS:
            for read in ([], [0], [77]):
                self.assertEqual(refusal(round_paper, view, read), "BadView", view)
                self.assertEqual(refusal(round_judged, view, read, ([], [])), "BadView", view)

    def test_things_read_back_that_are_none(self):
        for read in ([3], [-1], [5, 3], [9, 9, 10 ** 60], [0]):
            self.assertEqual(refusal(round_paper, VIEW, read), "BadView", read)
            self.assertEqual(refusal(round_judged, VIEW, read, round_paper(VIEW, [])), "BadView", read)
            self.assertEqual(refusal(round_judged, VIEW, read, ([], [])), "BadView", read)
        self.assertEqual(refusal(round_paper, ([], {}), [0]), "BadView")


class HandedInTest(unittest.TestCase):
    def test_it_stays_as_it_was(self):
        view, read = copy.deepcopy(VIEW), [41, 9, 9]
        paper = round_paper(view, read)
        self.assertIs(round_judged(view, read, paper), True)
        self.assertEqual((view, read), (VIEW, [41, 9, 9]))
        self.assertEqual(paper, round_paper(VIEW, read))

    def test_what_is_told_is_the_askers_own(self):
        paper = round_paper(VIEW, [9])
        paper[0].clear()
        paper[1].append(4)
        self.assertEqual(round_paper(VIEW, [9])[1], [30, 41])
        empty = round_paper(([], {}), [])
        self.assertIsNot(empty[0], empty[1])


if __name__ == "__main__":
    unittest.main()
