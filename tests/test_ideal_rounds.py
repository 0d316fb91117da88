"""Small and great rounds of the ideal heap, and what goes with the gone things."""

import random
import unittest

from stillheap.errors import HeapError
from stillheap.ideal import IdealHeap
from tests.helpers import all_told, led_by, refusal, thing_numbers


def chain(heap, h, many):
    """Things of one field, each told by the next made one, the last in hand h."""
    heap.make(h, 1)
    for _ in range(many - 1):
        heap.copy(7, h)
        heap.make(h, 1)
        heap.store(h, 0, 7)
    heap.drop(7)


class SmallRoundTest(unittest.TestCase):
    def test_old_from_the_making_without_a_young_room(self):
        heap = IdealHeap(0, 100)
        heap.make(0, 0)
        heap.drop(0)
        self.assertIs(heap.is_old(0), True)
        self.assertIsNone(heap.small())
        self.assertEqual(heap.things(), [0])

    def test_young_at_first_with_a_young_room(self):
        heap = IdealHeap(7, 100)
        heap.make(0, 0)
        heap.make(1, 0)
        heap.drop(1)
        self.assertIs(heap.is_old(0), False)
        self.assertIsNone(heap.small())
        self.assertEqual((heap.things(), heap.is_old(0)), ([0], True))

    def test_chains_and_rings_of_young_things(self):
        heap = IdealHeap(64, 100)
        chain(heap, 0, 4)
        heap.make(1, 1)
        heap.make(2, 1)
        heap.store(1, 0, 2)
        heap.store(2, 0, 1)
        heap.make(3, 1)
        heap.make(4, 1)
        heap.store(3, 0, 4)
        heap.store(4, 0, 3)
        heap.drop(1)
        for h in (3, 4):
            heap.drop(h)
        heap.small()
        self.assertEqual(heap.things(), [0, 1, 2, 3, 4, 5])
        self.assertEqual([heap.is_old(t) for t in heap.things()], [True] * 6)

    def test_a_young_thing_that_only_an_old_thing_leads_to(self):
        heap = IdealHeap(64, 100)
        heap.make(0, 1)
        heap.small()
        chain(heap, 1, 3)
        heap.store(0, 0, 1)
        heap.drop(1)
        heap.small()
        self.assertEqual(heap.things(), [0, 1, 2, 3])

    def test_an_old_thing_that_nothing_leads_to_counts(self):
        heap = IdealHeap(64, 100)
        heap.make(0, 1)
        heap.small()
        heap.make(1, 0)
        heap.store(0, 0, 1)
        heap.drop(0)
        heap.drop(1)
        heap.small()
        self.assertEqual(heap.things(), [0, 1])
        self.assertIs(heap.is_old(1), True)

    def test_old_things_stay_though_nothing_leads_to_them(self):
        heap = IdealHeap(64, 100)
        heap.make(0, 0)
        heap.small()
        heap.drop(0)
        heap.small()
        self.assertEqual(heap.things(), [0])

    def test_a_young_thing_led_to_through_an_old_one_alone(self):
        heap = IdealHeap(64, 100)
        heap.make(0, 1)
        heap.small()
        heap.make(1, 1)
        heap.store(1, 0, 0)
        heap.make(2, 0)
        heap.store(0, 0, 2)
        for h in (0, 1, 2):
            heap.drop(h)
        heap.small()
        self.assertEqual(heap.things(), [0, 2])

    def test_a_second_round_takes_nothing_of_the_first(self):
        heap = IdealHeap(64, 100)
        heap.make(0, 0)
        heap.make(1, 0)
        heap.small()
        heap.drop(0)
        before = all_told(heap)
        heap.small()
        self.assertEqual(all_told(heap), before)
        heap.make(2, 0)
        heap.drop(2)
        heap.small()
        self.assertEqual(all_told(heap)["things"], [0, 1])

    def test_weak_names_hold_nothing(self):
        heap = IdealHeap(64, 100)
        heap.make(0, 0)
        heap.name(0, 0)
        heap.make(1, 0)
        heap.name(1, 1)
        heap.drop(0)
        heap.small()
        self.assertEqual((heap.things(), heap.names()[:2]), ([1], [None, 1]))
        heap.read(0, 0)
        self.assertEqual(heap.kind(0), "none")

    def test_read_brings_back_a_young_thing(self):
        heap = IdealHeap(64, 100)
        heap.make(0, 0)
        heap.name(0, 0)
        heap.drop(0)
        heap.read(3, 0)
        heap.small()
        self.assertEqual((heap.things(), heap.hands()[3]), ([0], ("thing", 0)))


class GreatRoundTest(unittest.TestCase):
    def test_doomed_at_the_beginning_and_gone_at_the_end(self):
        heap = IdealHeap(0, 100)
        heap.make(0, 1)
        heap.make(1, 1)
        heap.store(1, 0, 0)
        heap.make(2, 0)
        heap.store(0, 0, 2)
        heap.drop(0)
        heap.drop(1)
        self.assertIs(heap.round_on(), False)
        self.assertIsNone(heap.begin())
        self.assertIs(heap.round_on(), True)
        self.assertEqual((heap.doomed(), heap.things()), ([0, 1], [0, 1, 2]))
        heap.drop(2)
        self.assertEqual(heap.doomed(), [0, 1])
        self.assertIsNone(heap.end())
        self.assertEqual((heap.doomed(), heap.things(), heap.round_on()), ([], [2], False))

    def test_it_begins_with_a_small_round(self):
        heap = IdealHeap(64, 100)
        heap.make(0, 0)
        heap.make(1, 0)
        heap.small()
        heap.drop(0)
        heap.make(2, 0)
        heap.make(3, 0)
        heap.drop(2)
        heap.begin()
        self.assertEqual((heap.things(), heap.doomed()), ([0, 1, 3], [0]))
        self.assertEqual([heap.is_old(t) for t in heap.things()], [True] * 3)

    def test_a_ring_that_nothing_leads_to_is_doomed(self):
        heap = IdealHeap(0, 100)
        heap.make(0, 1)
        heap.make(1, 1)
        heap.store(0, 0, 1)
        heap.store(1, 0, 0)
        heap.drop(0)
        heap.drop(1)
        heap.begin()
        self.assertEqual(heap.doomed(), [0, 1])

    def test_read_gives_back_all_to_which_it_leads(self):
        heap = IdealHeap(0, 100)
        chain(heap, 0, 4)
        heap.name(0, 0)
        heap.load(1, 0, 0)
        heap.name(1, 1)
        heap.make(2, 0)
        for h in (0, 1, 2):
            heap.drop(h)
        heap.begin()
        self.assertEqual(heap.doomed(), [0, 1, 2, 3, 4])
        heap.read(5, 1)
        self.assertEqual(heap.hands()[5], ("thing", 2))
        self.assertEqual(heap.doomed(), [3, 4])
        heap.end()
        self.assertEqual((heap.things(), heap.names()[:2]), ([0, 1, 2], [None, 2]))

    def test_read_gives_back_a_ring(self):
        heap = IdealHeap(0, 100)
        heap.make(0, 1)
        heap.make(1, 1)
        heap.store(0, 0, 1)
        heap.store(1, 0, 0)
        heap.name(3, 1)
        heap.drop(0)
        heap.drop(1)
        heap.begin()
        heap.read(0, 3)
        self.assertEqual(heap.doomed(), [])
        heap.drop(0)
        heap.end()
        self.assertEqual(heap.things(), [0, 1])

    def test_things_made_within_the_round_are_never_doomed(self):
        for young in (0, 7):
            heap = IdealHeap(young, 100)
            heap.begin()
            heap.make(0, 0)
            heap.copy(1, 0)
            heap.drop(0)
            heap.small()
            heap.drop(1)
            self.assertEqual(heap.doomed(), [])
            heap.end()
            self.assertEqual(heap.things(), [0])

    def test_small_rounds_within_it(self):
        heap = IdealHeap(64, 100)
        heap.make(0, 0)
        heap.small()
        heap.drop(0)
        heap.begin()
        heap.make(1, 0)
        heap.make(2, 0)
        heap.drop(1)
        self.assertIsNone(heap.small())
        self.assertEqual((heap.things(), heap.doomed(), heap.round_on()), ([0, 2], [0], True))
        heap.end()
        self.assertEqual(heap.things(), [2])

    def test_what_is_let_go_within_the_round_goes_at_the_next(self):
        heap = IdealHeap(0, 100)
        heap.make(0, 0)
        heap.begin()
        heap.drop(0)
        heap.end()
        self.assertEqual(heap.things(), [0])
        heap.begin()
        self.assertEqual(heap.doomed(), [0])
        heap.end()
        self.assertEqual(heap.things(), [])

    def test_a_round_with_nothing_doomed(self):
        heap = IdealHeap(0, 100)
        heap.begin()
        self.assertEqual((heap.doomed(), heap.round_on()), ([], True))
        heap.end()
        self.assertIs(heap.round_on(), False)

    def test_turns_that_are_refused(self):
        heap = IdealHeap(7, 100)
        heap.make(0, 0)
        heap.drop(0)
        before = all_told(heap)
        self.assertEqual(refusal(heap.end), "NoRound")
        self.assertEqual(all_told(heap), before)
        heap.begin()
        heap.make(0, 0)
        heap.drop(0)
        before = all_told(heap)
        self.assertEqual(refusal(heap.begin), "RoundOn")
        self.assertEqual(all_told(heap), before)
        self.assertEqual(refusal(heap.small), None)
        heap.end()
        self.assertEqual(refusal(heap.end), "NoRound")
        self.assertEqual(refusal(heap.small), None)


class GoneThingsTest(unittest.TestCase):
    def test_words_are_said_in_the_order_of_making_behind_those_before(self):
        heap = IdealHeap(64, 100)
        for h, x in ((0, 30), (1, 10), (2, 20)):
            heap.make(h, 0)
        for h, x in ((2, 20), (0, 30), (1, 10)):
            heap.word(h, x)
        heap.small()
        heap.make(3, 0)
        heap.word(3, 99)
        heap.drop(3)
        heap.make(3, 0)
        heap.drop(3)
        heap.drop(2)
        heap.drop(0)
        heap.begin()
        self.assertEqual(heap.said(), [99])
        self.assertEqual(heap.word_of(0), 30)
        heap.end()
        self.assertEqual(heap.said(), [99, 30, 20])
        heap.begin()
        heap.end()
        self.assertEqual(heap.said(), [99, 30, 20])

    def test_a_word_of_a_thing_given_back_is_not_said(self):
        heap = IdealHeap(0, 100)
        heap.make(0, 0)
        heap.word(0, 4)
        heap.name(0, 0)
        heap.drop(0)
        heap.begin()
        heap.read(0, 0)
        heap.end()
        self.assertEqual((heap.said(), heap.word_of(0)), ([], 4))

    def test_like_words_are_said_each(self):
        heap = IdealHeap(0, 100)
        for _ in range(3):
            heap.make(0, 0)
            heap.word(0, 0)
        heap.drop(0)
        heap.begin()
        heap.end()
        self.assertEqual(heap.said(), [0, 0, 0])

    def test_all_names_of_a_gone_thing_name_nothing(self):
        heap = IdealHeap(0, 100)
        heap.make(0, 0)
        heap.make(1, 0)
        for w in (0, 3, 7):
            heap.name(w, 0)
        heap.name(5, 1)
        heap.drop(0)
        heap.begin()
        self.assertEqual(heap.names(), [0, None, None, 0, None, 1, None, 0])
        heap.end()
        self.assertEqual(heap.names(), [None] * 5 + [1, None, None])


class RoomTest(unittest.TestCase):
    def test_a_young_room_just_full_and_one_word_more(self):
        for young, counts in ((7, [6]), (8, [3, 3]), (64, [6] * 9 + [0])):
            heap = IdealHeap(young, 400)
            for n in counts:
                heap.make(0, n)
            self.assertEqual(heap.things(), list(range(len(counts))), young)
            self.assertEqual([heap.is_old(t) for t in heap.things()], [False] * len(counts))
            heap.make(1, 0)
            last = len(counts)
            self.assertEqual(heap.things(), [last - 1, last])
            self.assertEqual([heap.is_old(t) for t in heap.things()], [True, False])

    def test_one_word_below_full(self):
        heap = IdealHeap(8, 400)
        heap.make(0, 6)
        heap.drop(0)
        heap.make(0, 0)
        self.assertEqual(heap.things(), [0, 1])

    def test_what_the_hand_held_counts_as_held(self):
        heap = IdealHeap(7, 400)
        heap.make(3, 6)
        heap.make(3, 6)
        self.assertEqual(heap.things(), [0, 1])
        self.assertEqual([heap.is_old(0), heap.is_old(1)], [True, False])

    def test_the_limit_and_one_word_more(self):
        for limit, counts in ((7, [6]), (10, [6, 2]), (400, [6] * 57 + [0])):
            heap = IdealHeap(0, limit)
            for n in counts:
                heap.make(0, n)
            self.assertEqual(heap.held(), limit)
            before = all_told(heap)
            self.assertEqual(refusal(heap.make, 1, 0), "NoRoom")
            self.assertEqual(all_told(heap), before)

    def test_one_word_too_many_by_a_greater_thing(self):
        heap = IdealHeap(0, 10)
        heap.make(0, 6)
        self.assertEqual(refusal(heap.make, 0, 3), "NoRoom")
        self.assertEqual(heap.hands()[0], ("thing", 0))
        heap.make(0, 2)
        self.assertEqual((heap.held(), heap.made()), (10, 2))

    def test_doomed_things_count_for_the_limit(self):
        heap = IdealHeap(0, 7)
        heap.make(0, 6)
        heap.drop(0)
        heap.begin()
        self.assertEqual(refusal(heap.make, 0, 0), "NoRoom")
        heap.end()
        heap.make(0, 6)
        self.assertEqual(heap.things(), [1])

    def test_the_small_round_stays_done_where_make_is_refused(self):
        heap = IdealHeap(7, 8)
        heap.make(0, 4)
        heap.make(1, 0)
        heap.word(1, 6)
        heap.name(0, 1)
        heap.drop(1)
        self.assertEqual(refusal(heap.make, 1, 3), "NoRoom")
        self.assertEqual((heap.things(), heap.is_old(0), heap.said()), ([0], True, [6]))
        self.assertEqual((heap.names()[0], heap.made(), heap.hands()[1]), (None, 2, None))

    def test_the_small_round_makes_the_room(self):
        heap = IdealHeap(7, 7)
        heap.make(0, 6)
        heap.drop(0)
        heap.make(1, 6)
        self.assertEqual(heap.things(), [1])

    def test_without_a_full_young_room_no_small_round_makes_room(self):
        heap = IdealHeap(64, 7)
        heap.make(0, 6)
        heap.drop(0)
        before = all_told(heap)
        self.assertEqual(refusal(heap.make, 0, 0), "NoRoom")
        self.assertEqual(all_told(heap), before)


class BearersTest(unittest.TestCase):
    def with_bearers(self, many):
        heap = IdealHeap(0, 400)
        heap.make(0, 6)
        for x in range(many):
            heap.make(1, 0)
            heap.word(1, x)
        return heap

    def test_twelve_and_a_thirteenth(self):
        heap = self.with_bearers(12)
        heap.make(2, 0)
        before = all_told(heap)
        self.assertEqual(refusal(heap.word, 2, 5), "TooManyWords")
        self.assertEqual(all_told(heap), before)

    def test_a_bearer_gets_another_word(self):
        heap = self.with_bearers(12)
        heap.word(1, 77)
        self.assertEqual(heap.word_of(12), 77)

    def test_doomed_bearers_count_until_they_are_gone(self):
        heap = self.with_bearers(12)
        heap.drop(1)
        heap.begin()
        self.assertEqual(len(heap.doomed()), 12)
        self.assertEqual(refusal(heap.word, 0, 5), "TooManyWords")
        heap.end()
        heap.word(0, 5)
        self.assertEqual(heap.word_of(0), 5)
        self.assertEqual(heap.said(), list(range(12)))

    def test_a_word_of_nought_is_borne(self):
        heap = IdealHeap(0, 400)
        for _ in range(12):
            heap.make(0, 0)
            heap.word(0, 0)
        heap.word(0, 1)
        heap.make(1, 0)
        self.assertEqual(refusal(heap.word, 1, 0), "TooManyWords")


class Model:
    """What points 2.1 to 2.5 tell, worked out by whole passes over what the heap told."""

    def __init__(self, heap):
        self.told = all_told(heap)
        self.fields = dict(zip(self.told["things"], self.told["fields"]))
        self.old = dict(zip(self.told["things"], self.told["old"]))
        self.words = dict(zip(self.told["things"], self.told["words"]))

    def gone_small(self):
        young = {t for t in self.fields if not self.old[t]}
        starts = set(thing_numbers(self.told["hands"]))
        for t in self.fields:
            if self.old[t]:
                starts |= set(thing_numbers(self.fields[t]))
        return young - led_by(starts & young, lambda t: set(thing_numbers(self.fields[t])) & young)

    def not_reached(self):
        starts = thing_numbers(self.told["hands"])
        return set(self.fields) - led_by(starts, lambda t: thing_numbers(self.fields[t]))

    def spared(self, t):
        doomed = set(self.told["doomed"])
        return led_by({t} & doomed, lambda u: set(thing_numbers(self.fields[u])) & doomed)

    def small_due(self, young, n):
        words = sum(len(self.fields[t]) + 1 for t in self.fields if not self.old[t])
        return young > 0 and words + n + 1 > young


class WovenDeedsTest(unittest.TestCase):
    """Long rows of dealt deeds: after each, the heap stands as the points tell."""

    def assert_gone(self, heap, model, gone, old):
        self.assertEqual(heap.things(), [t for t in model.told["things"] if t not in gone])
        self.assertEqual(heap.names(), [None if t in gone else t for t in model.told["names"]])
        words = [model.words[t] for t in sorted(gone) if model.words[t] is not None]
        self.assertEqual(heap.said(), model.told["said"] + words)
        self.assertEqual([heap.is_old(t) for t in heap.things()], [old or model.old[t] for t in heap.things()])
        for t in heap.things():
            self.assertEqual((heap.fields_of(t), heap.word_of(t)), (model.fields[t], model.words[t]))
        self.assertEqual(heap.hands(), model.told["hands"])

    def check_small(self, heap):
        model = Model(heap)
        heap.small()
        self.assert_gone(heap, model, model.gone_small(), True)
        self.assertEqual(heap.doomed(), model.told["doomed"])

    def check_begin(self, heap):
        self.check_small(heap)
        model = Model(heap)
        heap.begin()
        self.assertEqual(heap.doomed(), sorted(model.not_reached()))
        self.assert_gone(heap, model, set(), True)

    def check_end(self, heap):
        model = Model(heap)
        heap.end()
        self.assert_gone(heap, model, set(model.told["doomed"]), False)
        self.assertEqual((heap.doomed(), heap.round_on()), ([], False))

    def check_read(self, heap, h, w):
        model = Model(heap)
        heap.read(h, w)
        t = model.told["names"][w]
        self.assertEqual(heap.hands()[h], None if t is None else ("thing", t))
        self.assertEqual(heap.doomed(), sorted(set(model.told["doomed"]) - model.spared(t)))

    def check_make(self, heap, young, limit, h, n):
        model = Model(heap)
        if model.small_due(young, n):
            gone = model.gone_small()
        else:
            gone = set()
        kept = [t for t in model.told["things"] if t not in gone]
        words = sum(len(model.fields[t]) + 1 for t in kept)
        name = refusal(heap.make, h, n)
        if words + n + 1 > limit:
            self.assertEqual((name, heap.things()), ("NoRoom", kept))
        else:
            self.assertEqual((name, heap.things()), (None, kept + [model.told["made"]]))
            self.assertIs(heap.is_old(model.told["made"]), young == 0)
            self.assertEqual(heap.held(), words + n + 1)

    def check_invariants(self, heap):
        doomed = set(heap.doomed())
        self.assertEqual(doomed & set(thing_numbers(heap.hands())), set())
        for t in set(heap.things()) - doomed:
            self.assertEqual(doomed & set(thing_numbers(heap.fields_of(t))), set())

    def deal(self, heap, young, limit, dealer):
        h, g, w, k, n = (dealer.randrange(8), dealer.randrange(8), dealer.randrange(8),
                         dealer.randrange(3), dealer.randrange(4))
        deed = dealer.randrange(60)
        if deed < 16:
            self.check_make(heap, young, limit, h, n)
        elif deed < 28:
            refusal(heap.store, g, k, h)
        elif deed < 36:
            refusal(heap.load, h, g, k)
        elif deed < 42:
            heap.drop(h)
        elif deed < 46:
            refusal(heap.name, w, h)
        elif deed < 49:
            self.check_read(heap, h, w)
        elif deed < 53:
            refusal(heap.word, h, n)
        elif deed < 55:
            self.check_small(heap)
        elif deed < 56:
            heap.take()
        elif heap.round_on():
            self.check_end(heap)
        else:
            self.check_begin(heap)
        self.check_invariants(heap)

    def test_dealt_deeds(self):
        for young, limit in ((0, 30), (0, 400), (7, 40), (20, 100), (64, 400)):
            for seed in range(6):
                dealer = random.Random(seed)
                heap = IdealHeap(young, limit)
                for _ in range(400):
                    try:
                        self.deal(heap, young, limit, dealer)
                    except HeapError as error:
                        self.fail(error)


if __name__ == "__main__":
    unittest.main()
