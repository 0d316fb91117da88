import unittest

from stillheap.ideal import IdealHeap
from stillheap.mover import OldMover
from stillheap.moving import Mover
from tests.helpers import LogReader, Mirror, at, hall_told, head, refusal, rows_behind, words


def things(hall):
    return [t for t, a in hall.book()]


class NewHallTest(unittest.TestCase):
    def test_limits(self):
        for young, limit in ((0, 7), (7, 7), (64, 400), (0, 400), (8, 9)):
            hall = Mover(young, limit)
            self.assertEqual(words(hall.memory()), [None] * (2 * limit + young))
            self.assertEqual(hall.log(), [("room", 2 * limit + young, young > 0)])
            self.assertEqual((hall.remembered(), hall.cost(), hall.half()), ([], (0, 0), 0))
            self.assertIs(hall.log()[0][2], young > 0)
        for young, limit in ((1, 20), (6, 20), (65, 20), (-1, 20), (-7, 20), (0, 6), (7, 401), (64, 0), (0, -7)):
            self.assertEqual(refusal(Mover, young, limit), "BadCount")

    def test_without_a_young_room_it_is_as_the_old_mover(self):
        halls = (Mover(0, 20), OldMover(20))
        for deed in (("make", 0, 2), ("make", 1, 1), ("store", 0, 0, 1), ("drop", 1), ("small",), ("begin",), ("make", 3, 0),
                     ("load", 2, 0, 0), ("step", 1), ("small",), ("step", 1000), ("make", 4, 3)):
            for hall in halls:
                getattr(hall, deed[0])(*deed[1:])
            told = hall_told(halls[0])
            self.assertEqual(told.pop("remembered"), [])
            self.assertEqual(told, hall_told(halls[1]))


class YoungRoomTest(unittest.TestCase):
    def test_things_are_made_from_its_beginning_on(self):
        hall = Mover(10, 20)
        hall.make(0, 2)
        hall.make(1, 0)
        hall.make(0, 5)
        self.assertEqual(hall.book(), [(0, 40), (1, 43), (2, 44)])
        self.assertEqual(words(hall.memory()), [None] * 40 + [head(0, 2), None, None, head(1, 0), head(2, 5)] + [None] * 5)
        self.assertEqual(hall.log()[1:], [("make", 0, 2, 0, 40), ("make", 1, 0, 1, 43), ("make", 0, 5, 2, 44)])
        self.assertEqual((hall.held(), hall.hands()[:2], hall.cost()), (10, [at(44), at(43)], (0, 0)))

    def test_just_full_and_one_word_more(self):
        for young, counts in ((7, [6]), (8, [3, 3]), (64, [6] * 9 + [0])):
            hall = Mover(young, 400)
            for n in counts:
                hall.make(0, n)
            self.assertEqual(things(hall), list(range(len(counts))))
            self.assertNotIn(("small",), hall.log())
            last = len(counts)
            rows = rows_behind(hall, hall.make, 1, 0)
            size = counts[-1] + 1
            self.assertEqual(rows, [("small",), ("move", last - 1, 400 - size), ("make", 1, 0, last, 800)])
            self.assertEqual(hall.book(), [(last - 1, 400 - size), (last, 800)])
            self.assertEqual(hall.cost(), (counts[-1], size))

    def test_what_the_hand_held_counts(self):
        hall = Mover(7, 20)
        hall.make(3, 6)
        hall.make(3, 6)
        self.assertEqual(hall.book(), [(0, 13), (1, 40)])
        hall.make(3, 0)
        self.assertEqual(refusal(hall.make, 3, 6), "NoRoom")

    def test_no_room_behind_a_small_round(self):
        hall = Mover(7, 8)
        hall.make(0, 4)
        hall.make(1, 0)
        hall.word(1, 6)
        hall.name(0, 1)
        hall.name(1, 0)
        hall.drop(1)
        self.assertEqual(rows_behind(hall, hall.make, 1, 3), [("small",), ("move", 0, 3)])
        self.assertEqual((hall.book(), hall.hands()[:2], hall.held()), ([(0, 3)], [at(3), None], 5))
        self.assertEqual((hall.names()[:2], hall.cost(), hall.remembered()), ([None, at(3)], (4, 5), []))
        self.assertEqual(words(hall.memory())[16:], [None] * 7)
        before = hall_told(hall)
        self.assertEqual(refusal(hall.make, 1, 3), "NoRoom")
        self.assertEqual(hall_told(hall), before)
        hall.make(1, 2)
        self.assertEqual((hall.book(), hall.take(), hall.take()), ([(0, 3), (2, 16)], 6, None))

    def test_no_room_without_a_small_round(self):
        hall = Mover(64, 7)
        hall.make(0, 6)
        hall.drop(0)
        before = hall_told(hall)
        self.assertEqual(refusal(hall.make, 0, 0), "NoRoom")
        self.assertEqual(hall_told(hall), before)

    def test_bad_counts_go_ahead_of_the_small_round(self):
        hall = Mover(7, 7)
        hall.make(0, 6)
        before = hall_told(hall)
        self.assertEqual(refusal(hall.make, 0, 7), "BadCount")
        self.assertEqual(refusal(hall.make, 8, 6), "BadHand")
        self.assertEqual(hall_told(hall), before)

    def test_read_brings_back_a_young_thing(self):
        hall = Mover(20, 40)
        hall.make(0, 1)
        hall.name(2, 0)
        hall.drop(0)
        hall.read(1, 2)
        hall.small()
        self.assertEqual((hall.book(), hall.names()[2], hall.hands()[1]), ([(0, 38)], at(38), at(38)))
        hall.make(0, 1)
        hall.name(2, 0)
        hall.drop(0)
        hall.small()
        hall.read(1, 2)
        self.assertEqual((things(hall), hall.hands()[1], hall.names()[2]), ([0], None, None))


class SmallRoundTest(unittest.TestCase):
    def test_hands_lead_straight_and_through_young_things(self):
        hall = Mover(30, 40)
        hall.make(0, 1)
        hall.make(1, 2)
        hall.store(0, 0, 1)
        hall.make(2, 0)
        hall.store(1, 1, 2)
        hall.make(3, 1)
        hall.store(3, 0, 0)
        for h in (1, 2, 3):
            hall.drop(h)
        rows = rows_behind(hall, hall.small)
        self.assertEqual(rows, [("small",), ("move", 0, 38), ("move", 1, 35), ("move", 2, 34)])
        self.assertEqual(words(hall.memory())[:40], [None] * 34 + [
            head(2, 0), head(1, 2), None, at(34), head(0, 1), at(35)])
        self.assertEqual(words(hall.memory())[40:], [None] * 70)
        self.assertEqual((hall.cost(), hall.hands()[0], hall.held()), ((3, 6), at(38), 6))

    def test_rings_and_things_told_twice(self):
        hall = Mover(30, 40)
        hall.make(0, 2)
        hall.make(1, 2)
        for g, k, h in ((0, 0, 0), (0, 1, 1), (1, 0, 0), (1, 1, 1)):
            hall.store(g, k, h)
        hall.copy(2, 0)
        hall.small()
        self.assertEqual(words(hall.memory())[34:40], [head(1, 2), at(37), at(34), head(0, 2), at(37), at(34)])
        self.assertEqual((hall.hands()[:3], hall.cost()), ([at(37), at(34), at(37)], (4, 6)))

    def test_without_a_gap_behind_one_another(self):
        hall = Mover(10, 30)
        for n in (2, 0, 6, 1, 3):
            hall.make(0, n)
            hall.small()
        hall.make(1, 5)
        self.assertEqual(hall.book(), [(0, 27), (1, 26), (2, 19), (3, 17), (4, 13), (5, 60)])

    def test_nothing_young(self):
        hall = Mover(10, 30)
        self.assertEqual(rows_behind(hall, hall.small), [("small",)])
        hall.make(0, 2)
        hall.small()
        before = hall_told(hall)
        self.assertIsNone(hall.small())
        self.assertEqual(hall.cost(), (0, 0))
        behind = hall_told(hall)
        for told in (before, behind):
            told.pop("cost")
            told.pop("log")
        self.assertEqual(behind, before)

    def test_young_things_do_not_go_at_other_times(self):
        hall = Mover(10, 30)
        hall.make(0, 2)
        hall.make(0, 2)
        hall.drop(0)
        self.assertEqual((things(hall), hall.held()), ([0, 1], 6))
        hall.small()
        self.assertEqual((things(hall), hall.held()), ([], 0))

    def test_names_and_last_words(self):
        hall = Mover(20, 40)
        for h, x in ((0, 3), (1, 1), (2, 2)):
            hall.make(h, 0)
            hall.word(h, x)
            hall.name(h, h)
        hall.name(7, 2)
        hall.drop(2)
        hall.drop(0)
        hall.small()
        self.assertEqual(hall.names(), [None, at(39), None, None, None, None, None, None])
        self.assertEqual([hall.take() for _ in range(3)], [3, 2, None])


class RememberedTest(unittest.TestCase):
    def hall(self):
        """Hand 0 holds the old thing 0 of three fields, hand 1 the young thing 1 of two."""
        hall = Mover(20, 40)
        hall.make(0, 3)
        hall.small()
        hall.make(1, 2)
        return hall

    def test_old_things_fields_that_tell_young_ones(self):
        hall = self.hall()
        hall.store(0, 2, 1)
        self.assertEqual(hall.remembered(), [(0, 2)])
        hall.store(0, 0, 1)
        self.assertEqual(hall.remembered(), [(0, 0), (0, 2)])
        hall.store(0, 0, 1)
        self.assertEqual(hall.remembered(), [(0, 0), (0, 2)])
        self.assertEqual(hall.cost(), (0, 0))

    def test_other_values_in_their_stead(self):
        for value in (None, ("number", 4), "old"):
            hall = self.hall()
            hall.store(0, 2, 1)
            hall.store(0, 1, 1)
            if value == "old":
                hall.copy(2, 0)
            elif value is not None:
                hall.number(2, 4)
            hall.store(0, 2, 2)
            self.assertEqual(hall.remembered(), [(0, 1)], value)

    def test_old_values_and_none_are_not_remembered(self):
        hall = self.hall()
        hall.number(3, 40)
        for k, h in ((0, 0), (1, 3), (2, 2)):
            hall.store(0, k, h)
        self.assertEqual(hall.remembered(), [])

    def test_young_things_fields_are_not_remembered(self):
        hall = self.hall()
        hall.store(1, 0, 1)
        hall.store(1, 1, 0)
        self.assertEqual(hall.remembered(), [])

    def test_many_things_ascending(self):
        hall = Mover(20, 60)
        for h in (5, 3, 4):
            hall.make(h, 2)
        hall.small()
        hall.make(0, 0)
        for g, k in ((4, 1), (3, 0), (5, 1), (4, 0)):
            hall.store(g, k, 0)
        self.assertEqual(hall.remembered(), [(0, 1), (1, 0), (2, 0), (2, 1)])
        hall.remembered().append((9, 9))
        self.assertEqual(hall.remembered(), [(0, 1), (1, 0), (2, 0), (2, 1)])

    def test_none_is_behind_a_small_round(self):
        hall = self.hall()
        hall.store(0, 2, 1)
        hall.store(0, 0, 1)
        hall.small()
        self.assertEqual((hall.remembered(), hall.cost()), ([], (4, 3)))
        self.assertEqual(words(hall.memory())[33:40], [head(1, 2), None, None, head(0, 3), at(33), None, at(33)])

    def test_young_things_that_only_remembered_fields_lead_to(self):
        hall = self.hall()
        hall.make(2, 1)
        hall.store(1, 1, 2)
        hall.store(0, 1, 1)
        hall.drop(1)
        hall.drop(2)
        hall.small()
        self.assertEqual(hall.book(), [(0, 36), (1, 33), (2, 31)])
        hall.load(1, 0, 1)
        hall.load(2, 1, 1)
        self.assertEqual(hall.hands()[:3], [at(36), at(33), at(31)])

    def test_an_old_thing_that_is_not_reached_counts(self):
        hall = self.hall()
        hall.store(0, 1, 1)
        hall.drop(0)
        hall.drop(1)
        hall.small()
        self.assertEqual(things(hall), [0, 1])
        hall.begin()
        hall.step(1000)
        self.assertEqual(things(hall), [])

    def test_a_young_thing_no_longer_told(self):
        hall = self.hall()
        hall.store(0, 1, 1)
        hall.drop(1)
        hall.store(0, 1, 1)
        hall.small()
        self.assertEqual((things(hall), hall.cost()), ([0], (0, 0)))

    def test_no_other_field_of_an_old_thing_is_looked_at(self):
        hall = Mover(7, 400)
        for _ in range(40):
            hall.make(1, 6)
            hall.store(1, 0, 0)
            hall.copy(0, 1)
        hall.small()
        hall.make(1, 1)
        hall.store(0, 3, 1)
        hall.drop(1)
        hall.small()
        self.assertEqual(hall.cost(), (2, 2))


class GreatRoundTest(unittest.TestCase):
    def begun(self):
        """A round is on; hand 0 holds 0 (fields 1 and None), which is moved and not looked through."""
        hall = Mover(20, 40)
        hall.make(0, 2)
        hall.make(1, 1)
        hall.store(0, 0, 1)
        hall.drop(1)
        hall.begin()
        return hall

    def test_begin_does_a_small_round_first(self):
        hall = Mover(20, 40)
        hall.make(1, 2)
        hall.make(0, 0)
        hall.make(2, 3)
        hall.drop(2)
        rows = rows_behind(hall, hall.begin)
        self.assertEqual(rows, [
            ("small",), ("move", 1, 39), ("move", 0, 36), ("begin",), ("shade", 1), ("move", 1, 40),
            ("shade", 0), ("move", 0, 41)])
        self.assertEqual((hall.cost(), hall.left(), hall.half()), ((2, 8), 2, 40))

    def test_begin_within_a_round_does_no_small_round(self):
        hall = self.begun()
        hall.make(3, 2)
        before = hall_told(hall)
        self.assertEqual(refusal(hall.begin), "RoundOn")
        self.assertEqual(hall_told(hall), before)

    def test_things_made_within_it_are_young(self):
        hall = self.begun()
        hall.make(3, 2)
        self.assertEqual(hall.book(), [(0, 40), (1, 35), (2, 80)])
        hall.store(0, 1, 3)
        self.assertEqual(hall.remembered(), [(0, 1)])
        hall.step(1000)
        self.assertEqual((hall.book(), hall.remembered()), ([(0, 40), (1, 43), (2, 80)], [(0, 1)]))
        hall.small()
        self.assertEqual((hall.book(), hall.memory().at(42)), ([(0, 40), (1, 43), (2, 77)], at(77)))

    def test_what_a_small_round_laid_is_not_looked_through(self):
        hall = self.begun()
        hall.make(3, 2)
        hall.store(3, 1, 0)
        hall.store(0, 1, 3)
        rows = rows_behind(hall, hall.small)
        self.assertEqual(rows, [("small",), ("move", 2, 77)])
        self.assertEqual((hall.left(), hall.half(), hall.round_on()), (2, 40, True))
        rows = rows_behind(hall, hall.step, 1000)
        self.assertEqual(rows, [("look", 0, 0), ("shade", 1), ("move", 1, 43), ("look", 0, 1), ("look", 1, 0), ("end",)])
        self.assertEqual(words(hall.memory())[40:45], [head(0, 2), at(43), at(77), head(1, 1), None])
        self.assertEqual(words(hall.memory())[77:80], [head(2, 2), None, at(40)])

    def test_small_rounds_by_make_within_it(self):
        hall = self.begun()
        hall.make(3, 6)
        hall.make(4, 6)
        rows = rows_behind(hall, hall.make, 5, 6)
        self.assertEqual(rows, [("small",), ("move", 2, 73), ("move", 3, 66), ("make", 5, 6, 4, 80)])
        self.assertEqual((hall.cost(), hall.left()), ((12, 14), 2))

    def test_a_small_round_within_it_takes_no_doomed_thing(self):
        hall = Mover(20, 40)
        hall.make(0, 1)
        hall.name(0, 0)
        hall.small()
        hall.drop(0)
        hall.begin()
        hall.make(1, 0)
        hall.drop(1)
        hall.small()
        self.assertEqual((things(hall), hall.names()[0]), ([0], at(38)))
        hall.read(1, 0)
        self.assertEqual((hall.hands()[1], hall.names()[0]), (at(40), at(40)))
        hall.step(1000)
        self.assertEqual(things(hall), [0])

    def test_a_store_over_a_field_moves_first_and_remembers(self):
        hall = self.begun()
        hall.make(3, 0)
        rows = rows_behind(hall, hall.store, 0, 0, 3)
        self.assertEqual(rows, [("store", 0, 0, 3), ("shade", 1), ("move", 1, 43)])
        self.assertEqual((hall.remembered(), hall.cost()), ([(0, 0)], (0, 2)))

    def test_young_things_stay_behind_an_end(self):
        hall = self.begun()
        hall.make(3, 0)
        hall.drop(3)
        hall.step(1000)
        self.assertEqual(things(hall), [0, 1, 2])
        self.assertEqual(hall.memory().at(80), head(2, 0))
        hall.make(3, 1)
        self.assertEqual(hall.book()[-1], (3, 81))

    def test_a_full_limit_through_rounds(self):
        mirror = Mirror(Mover(7, 21), IdealHeap(7, 21))
        for turn in range(6):
            for h in range(3):
                mirror.both("make", h, 6)
            self.assertEqual(mirror.both("make", 3, 0), (None, "NoRoom"))
            mirror.both("drop", turn % 3)
            mirror.both("begin")
            mirror.step(1)
            mirror.both("make", 4, 6)
            self.assertIsNone(mirror.unlike())
            while not mirror.step(2):
                self.assertIsNone(mirror.unlike())
            for h in range(8):
                mirror.both("drop", h)
            mirror.both("begin")
            mirror.step(1)
            self.assertIsNone(mirror.unlike())
            mirror.read_log()

    def test_the_log_is_right(self):
        hall = self.begun()
        hall.make(3, 2)
        hall.make(4, 0)
        hall.store(0, 1, 3)
        hall.drop(4)
        hall.small()
        hall.drop(0)
        hall.step(1000)
        hall.begin()
        hall.step(1000)
        self.assertEqual(LogReader(hall.log()).gone, [[], [3], [], [], [0, 1]])


if __name__ == "__main__":
    unittest.main()
