import copy
import random
import unittest

from stillheap.errors import BadView
from stillheap.ideal import IdealHeap
from stillheap.reach import led_to, reached, view_of, way_to
from tests.helpers import NO_VIEWS, dealt_view, least_ways, led_by

# Gaps in the numbers; 9 and 11 are a ring that nothing leads to, 2 and 5 one that is reached.
VIEW = ([None, 5, 30, 5], {2: [None, 5], 5: [2, 30, 2], 9: [11], 11: [9, 2], 30: [], 41: [None]})


class ViewOfTest(unittest.TestCase):
    def test_a_heap(self):
        heap = IdealHeap(0, 100)
        heap.make(0, 2)
        heap.make(1, 0)
        heap.number(2, 1)
        heap.store(0, 1, 1)
        heap.store(0, 0, 2)
        heap.drop(1)
        heap.make(1, 1)
        heap.store(1, 0, 1)
        heap.copy(5, 1)
        heap.make(1, 0)
        heap.drop(1)
        self.assertEqual(view_of(heap), (
            [0, None, None, None, None, 2, None, None], {0: [None, 1], 1: [], 2: [2], 3: []},
        ))
        self.assertEqual(reached(view_of(heap)), [0, 1, 2])

    def test_an_empty_heap(self):
        self.assertEqual(view_of(IdealHeap(7, 7)), ([None] * 8, {}))

    def test_doomed_and_young_things_are_in_it(self):
        heap = IdealHeap(7, 100)
        heap.make(0, 0)
        heap.small()
        heap.drop(0)
        heap.begin()
        heap.make(0, 0)
        heap.drop(0)
        self.assertEqual(view_of(heap), ([None] * 8, {0: [], 1: []}))

    def test_it_is_the_askers_own(self):
        heap = IdealHeap(0, 100)
        heap.make(0, 1)
        view = view_of(heap)
        view[0][0] = None
        view[1][0][0] = 7
        view[1][9] = []
        self.assertEqual(view_of(heap), ([0] + [None] * 7, {0: [None]}))
        self.assertEqual(heap.fields_of(0), [None])


class ReachedTest(unittest.TestCase):
    def test_reached(self):
        self.assertEqual(reached(VIEW), [2, 5, 30])
        self.assertEqual(reached(([], {})), [])
        self.assertEqual(reached(([None], {4: [4]})), [])
        self.assertEqual(reached(([4], {4: [4]})), [4])
        self.assertEqual(reached(([100, 0], {0: [], 100: []})), [0, 100])

    def test_a_long_chain(self):
        fields = {t: [t + 1] for t in range(3000)}
        fields[3000] = []
        self.assertEqual(reached(([0], fields)), list(range(3001)))
        self.assertEqual(way_to(([0], fields), 3000), (0, (0,) * 3000))

    def test_told_is_the_askers_own(self):
        told = reached(VIEW)
        told.append(1)
        self.assertEqual(reached(VIEW), [2, 5, 30])


class WayToTest(unittest.TestCase):
    def test_ways(self):
        self.assertEqual(way_to(VIEW, 5), (1, ()))
        self.assertEqual(way_to(VIEW, 30), (2, ()))
        self.assertEqual(way_to(VIEW, 2), (1, (0,)))
        for t in (9, 11, 41):
            self.assertIsNone(way_to(VIEW, t))

    def test_fewer_places_go_ahead_of_a_lesser_root(self):
        view = ([1, 2], {1: [3], 2: [4], 3: [4], 4: []})
        self.assertEqual(way_to(view, 4), (1, (0,)))

    def test_the_lesser_root_goes_ahead_of_lesser_places(self):
        view = ([7, 2], {2: [4], 7: [None, None, 4], 4: []})
        self.assertEqual(way_to(view, 4), (0, (2,)))

    def test_the_lesser_places(self):
        view = ([0], {0: [None, 8, 3], 3: [9], 8: [None, 9, 9], 9: []})
        self.assertEqual(way_to(view, 9), (0, (1, 1)))

    def test_roots_are_told_by_their_places(self):
        view = ([None, 50, 50], {50: [50]})
        self.assertEqual(way_to(view, 50), (1, ()))

    def test_dealt_views(self):
        for seed in range(300):
            view = dealt_view(random.Random(seed))
            ways = least_ways(view)
            self.assertEqual(reached(view), sorted(ways), view)
            for t in view[1]:
                self.assertEqual(way_to(view, t), ways.get(t), view)


class LedToTest(unittest.TestCase):
    def test_led_to(self):
        self.assertEqual(led_to(VIEW, []), [])
        self.assertEqual(led_to(VIEW, [30]), [30])
        self.assertEqual(led_to(VIEW, [9]), [2, 5, 9, 11, 30])
        self.assertEqual(led_to(VIEW, [41, 2]), [2, 5, 30, 41])

    def test_things_told_twice_count_once(self):
        self.assertEqual(led_to(VIEW, [41, 30, 41, 30]), [30, 41])

    def test_roots_do_not_count(self):
        self.assertEqual(led_to(([1], {1: [], 2: []}), [2]), [2])

    def test_dealt_views(self):
        for seed in range(300):
            dealer = random.Random(seed)
            view = dealt_view(dealer)
            things = [dealer.choice(list(view[1])) for _ in range(dealer.randrange(4))]
            found = led_by(things, lambda t: [u for u in view[1][t] if u is not None])
            self.assertEqual(led_to(view, things), sorted(found))


class RefusalsTest(unittest.TestCase):
    def test_what_is_no_view(self):
        for view in NO_VIEWS:
            for call in (
                lambda: reached(view), lambda: way_to(view, 0), lambda: led_to(view, []), lambda: led_to(view, [0]),
            ):
                with self.assertRaises(BadView, msg=view):
                    call()

    def test_things_that_the_view_has_not(self):
        for t in (-1, 0, 3, 42, 10 ** 70):
            with self.assertRaises(BadView):
                way_to(VIEW, t)
            for things in ([t], [5, t], [t, 5]):
                with self.assertRaises(BadView):
                    led_to(VIEW, things)

    def test_nothing_handed_in_is_changed(self):
        view = copy.deepcopy(VIEW)
        things = [41, 2, 2]
        reached(view)
        way_to(view, 2)
        led_to(view, things)
        self.assertEqual((view, things), (VIEW, [41, 2, 2]))
        self.assertEqual(list(view[1]), list(VIEW[1]))


if __name__ == "__main__":
    unittest.main()
