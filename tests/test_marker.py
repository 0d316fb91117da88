import random
import unittest

from stillheap.ideal import IdealHeap
from stillheap.marker import Marker
from tests.helpers import HallRefusals, LogReader, Mirror, at, hall_told, head, refusal, rows_behind, words

FIVE = ("number", 5)


def chain(young=0):
    """Hand 0 holds thing 0, whose two fields tell 1 and 2; 1 tells 3; 4, of one field, is not reached.

    All are old, and no round is on.
    """
    hall = Marker(young, 40)
    for h, n in ((0, 2), (1, 1), (2, 0), (3, 2), (4, 1)):
        hall.make(h, n)
    hall.store(0, 0, 1)
    hall.store(0, 1, 2)
    hall.store(1, 0, 3)
    hall.small()
    for h in (1, 2, 3, 4):
        hall.drop(h)
    return hall


def things(hall):
    return [t for t, a in hall.book()]


def colour(hall, t):
    return dict(hall.colours())[t]


def all_colours(hall):
    """The colours' first letters, by the things' numbers."""
    return "".join(told[0] for t, told in hall.colours())


class NewHallTest(unittest.TestCase):
    def test_limits(self):
        for young, limit in ((0, 7), (7, 7), (64, 400), (0, 400), (8, 9)):
            hall = Marker(young, limit)
            self.assertEqual(words(hall.memory()), [None] * (7 * limit))
            self.assertEqual(hall.log(), [("room", 7 * limit, young > 0)])
            self.assertIs(hall.log()[0][2], young > 0)
            self.assertEqual((hall.hands(), hall.names(), hall.book()), ([None] * 8, [None] * 8, []))
            self.assertEqual((hall.left(), hall.cost(), hall.held(), hall.colours()), (0, (0, 0), 0, []))
            self.assertIs(hall.round_on(), False)
            self.assertIsNone(hall.take())
        for young, limit in ((1, 20), (6, 20), (65, 20), (-1, 20), (-7, 20), (0, 6), (7, 401), (64, 0), (0, -7)):
            self.assertEqual(refusal(Marker, young, limit), "BadCount")

    def test_it_has_no_halves_and_tells_no_remembered_fields(self):
        self.assertFalse(hasattr(Marker(7, 7), "half") or hasattr(Marker(7, 7), "remembered"))


class PlacesTest(unittest.TestCase):
    def test_things_in_the_least_free_box(self):
        hall = Marker(0, 12)
        self.assertIsNone(hall.make(0, 2))
        hall.make(1, 0)
        hall.make(0, 6)
        self.assertEqual(hall.book(), [(0, 0), (1, 7), (2, 14)])
        self.assertEqual(words(hall.memory())[:21], [head(0, 2)] + [None] * 6 + [head(1, 0)] + [None] * 6 + [
            head(2, 6)] + [None] * 6)
        self.assertEqual((hall.hands()[:2], hall.held()), ([at(14), at(7)], 11))
        hall.begin()
        hall.step(1000)
        self.assertEqual(hall.book(), [(1, 7), (2, 14)])
        hall.make(2, 3)
        self.assertEqual(hall.book(), [(1, 7), (2, 14), (3, 0)])
        self.assertEqual(hall.log()[-1], ("make", 2, 3, 3, 0))

    def test_the_box_is_the_least_behind_the_small_round(self):
        hall = Marker(7, 40)
        hall.make(0, 2)
        hall.make(1, 2)
        hall.drop(0)
        self.assertEqual(rows_behind(hall, hall.make, 2, 6), [("small",), ("make", 2, 6, 2, 0)])
        self.assertEqual(hall.book(), [(1, 7), (2, 0)])

    def test_a_box_keeps_nothing_of_what_stood_there(self):
        hall = Marker(0, 40)
        hall.make(0, 6)
        for k in range(6):
            hall.store(0, k, 0)
        hall.drop(0)
        hall.begin()
        hall.step(1)
        self.assertEqual(words(hall.memory()), [None] * 280)
        hall.make(0, 1)
        self.assertEqual(words(hall.memory()), [head(1, 1)] + [None] * 279)

    def test_things_stay_where_they_stand(self):
        hall = chain(64)
        before = dict(hall.book())
        hall.begin()
        hall.step(2)
        hall.small()
        hall.step(1000)
        self.assertEqual(hall.book(), [(t, before[t]) for t in (0, 1, 2, 3)])

    def test_the_limit_just_full_and_one_word_more(self):
        for young, limit, counts in ((0, 7, [6]), (0, 10, [6, 2]), (0, 400, [6] * 57 + [0]), (64, 7, [6]), (0, 9, [0] * 9),
                                     (64, 10, [0] * 10)):
            hall = Marker(young, limit)
            for n in counts:
                hall.make(0, n)
            self.assertEqual((hall.held(), hall.book()[-1][1]), (limit, 7 * (len(counts) - 1)))
            before = hall_told(hall)
            self.assertEqual(refusal(hall.make, 1, 0), "NoRoom")
            self.assertEqual(hall_told(hall), before)

    def test_no_room_behind_a_small_round(self):
        hall = Marker(7, 8)
        hall.make(0, 4)
        hall.make(1, 0)
        hall.word(1, 6)
        hall.name(0, 1)
        hall.name(1, 0)
        hall.drop(1)
        self.assertEqual(rows_behind(hall, hall.make, 1, 3), [("small",)])
        self.assertEqual((hall.book(), hall.hands()[:2], hall.held()), ([(0, 0)], [at(0), None], 5))
        self.assertEqual((hall.names()[:2], hall.cost()), ([None, at(0)], (4, 0)))
        self.assertEqual(words(hall.memory()), [head(0, 4)] + [None] * 55)
        before = hall_told(hall)
        self.assertEqual(refusal(hall.make, 1, 3), "NoRoom")
        self.assertEqual(hall_told(hall), before)
        hall.make(1, 2)
        self.assertEqual((hall.book(), hall.take(), hall.take()), ([(0, 0), (2, 7)], 6, None))


class BeginTest(unittest.TestCase):
    def test_hands_in_order_a_thing_in_two_hands_once(self):
        hall = Marker(0, 20)
        hall.make(5, 1)
        hall.make(3, 0)
        hall.make(0, 2)
        hall.make(6, 3)
        hall.copy(7, 3)
        hall.copy(1, 5)
        hall.number(2, 5)
        hall.drop(6)
        hands = hall.hands()
        self.assertEqual(rows_behind(hall, hall.begin), [("small",), ("begin",), ("shade", 2), ("shade", 0), ("shade", 1)])
        self.assertEqual(hall.colours(), [(0, "grey"), (1, "black"), (2, "grey"), (3, "white")])
        self.assertEqual((hall.hands(), hall.cost(), hall.left()), (hands, (0, 0), 3))
        self.assertIs(hall.round_on(), True)

    def test_things_in_fields_are_not_shaded(self):
        hall = chain()
        hall.begin()
        self.assertEqual((all_colours(hall), hall.left()), ("gwwww", 2))

    def test_young_things_grow_old_first(self):
        hall = Marker(20, 40)
        hall.make(0, 1)
        hall.make(1, 0)
        hall.make(2, 2)
        hall.store(0, 0, 2)
        hall.drop(1)
        hall.drop(2)
        rows = rows_behind(hall, hall.begin)
        self.assertEqual(rows, [("small",), ("begin",), ("shade", 0)])
        self.assertEqual((hall.colours(), hall.cost()), ([(0, "grey"), (2, "white")], (3, 0)))

    def test_eight_things_of_six_fields(self):
        hall = Marker(0, 56)
        for h in range(8):
            hall.make(h, 6)
        hall.begin()
        self.assertEqual((hall.cost(), hall.left()), ((0, 0), 48))


class MadeTest(unittest.TestCase):
    def test_made_things_are_black(self):
        for young in (0, 20):
            hall = chain(young)
            hall.begin()
            hall.make(5, 3)
            hall.make(6, 0)
            self.assertEqual((all_colours(hall), hall.left()), ("gwwwwbb", 2))
            hall.copy(7, 5)
            hall.store(5, 0, 0)
            hall.name(0, 5)
            self.assertEqual(rows_behind(hall, hall.read, 1, 0), [("read", 1, 0)])
            self.assertEqual(rows_behind(hall, hall.store, 5, 0, 6), [("store", 5, 0, 6)])
            rows = rows_behind(hall, hall.step, 1000)
            self.assertEqual([row for row in rows if row[1:2] in ((5,), (6,))], [])
            self.assertEqual(things(hall), [0, 1, 2, 3, 5, 6])

    def test_small_rounds_within_a_round(self):
        hall = chain(20)
        hall.begin()
        for h in (5, 6, 7):
            hall.make(h, 1)
        hall.store(0, 0, 6)
        hall.drop(6)
        hall.drop(7)
        self.assertEqual(all_colours(hall), "ggwwwbbb")
        self.assertEqual(rows_behind(hall, hall.small), [("small",)])
        self.assertEqual((things(hall), all_colours(hall), hall.cost()), ([0, 1, 2, 3, 4, 5, 6], "ggwwwbb", (3, 0)))
        self.assertIs(hall.step(1000), True)
        self.assertEqual(things(hall), [0, 1, 2, 3, 5, 6])


class LookTest(unittest.TestCase):
    def test_a_white_thing_is_shaded_behind_the_look(self):
        hall = chain()
        hall.begin()
        self.assertEqual(rows_behind(hall, hall.step, 1), [("look", 0, 0), ("shade", 1)])
        self.assertEqual((all_colours(hall), hall.left(), hall.cost()), ("ggwww", 2, (1, 0)))
        self.assertEqual(rows_behind(hall, hall.step, 1), [("look", 0, 1), ("shade", 2)])
        self.assertEqual((all_colours(hall), hall.left()), ("bgbww", 1))
        self.assertEqual(rows_behind(hall, hall.step, 1), [("look", 1, 0), ("shade", 3)])
        self.assertEqual((all_colours(hall), hall.left()), ("bbbgw", 2))
        self.assertEqual(rows_behind(hall, hall.step, 1), [("look", 3, 0)])
        self.assertEqual((all_colours(hall), hall.left()), ("bbbgw", 1))
        self.assertEqual(rows_behind(hall, hall.step, 1), [("look", 3, 1), ("end",)])
        self.assertEqual((hall.colours(), hall.left(), hall.cost()), ([], 0, (1, 0)))

    def test_all_other_things_that_a_field_may_tell(self):
        hall = Marker(0, 40)
        hall.make(0, 6)
        hall.make(1, 1)
        hall.make(2, 0)
        hall.number(3, 5)
        for k, h in ((0, 0), (1, 1), (2, 2), (3, 3)):
            hall.store(0, k, h)
        hall.begin()
        hall.make(4, 0)
        hall.store(0, 4, 4)
        self.assertEqual(rows_behind(hall, hall.step, 6), [("look", 0, k) for k in range(6)])
        self.assertEqual(all_colours(hall), "bgbb")

    def test_a_field_that_tells_its_own_thing(self):
        hall = Marker(0, 40)
        hall.make(0, 2)
        hall.make(1, 1)
        hall.store(1, 0, 1)
        hall.store(0, 0, 1)
        hall.drop(1)
        hall.begin()
        self.assertEqual(rows_behind(hall, hall.step, 9), [
            ("look", 0, 0), ("shade", 1), ("look", 0, 1), ("look", 1, 0), ("end",)])

    def test_the_grey_thing_made_first_each_time(self):
        hall = Marker(0, 40)
        for h in range(4):
            hall.make(h, 2)
        hall.store(2, 0, 0)
        hall.store(2, 1, 3)
        hall.store(0, 1, 1)
        for h in (0, 1, 3):
            hall.drop(h)
        hall.begin()
        self.assertEqual(rows_behind(hall, hall.step, 3), [("look", 2, 0), ("shade", 0), ("look", 0, 0), ("look", 0, 1), ("shade", 1)])
        self.assertEqual((all_colours(hall), hall.left()), ("bggw", 3))
        self.assertEqual(rows_behind(hall, hall.step, 1000), [
            ("look", 1, 0), ("look", 1, 1), ("look", 2, 1), ("shade", 3), ("look", 3, 0), ("look", 3, 1), ("end",)])

    def test_a_thing_made_earlier_becomes_grey_between_two_steps(self):
        hall = Marker(0, 40)
        for h in range(3):
            hall.make(h, 2)
        hall.name(0, 0)
        hall.drop(0)
        hall.begin()
        hall.step(1)
        hall.read(0, 0)
        self.assertEqual(all_colours(hall), "ggg")
        self.assertEqual(rows_behind(hall, hall.step, 4), [("look", 0, 0), ("look", 0, 1), ("look", 1, 1), ("look", 2, 0)])


class StoreTest(unittest.TestCase):
    def values(self, hall):
        """A deed for each sort of value in hand 6."""
        return (("drop", 6), ("number", 6, 5), ("copy", 6, 0), ("load", 6, 0, 1), ("make", 6, 0))

    def test_a_grey_things_field_not_looked_at_yet(self):
        for at_value in range(5):
            hall = chain()
            hall.begin()
            deed = self.values(hall)[at_value]
            getattr(hall, deed[0])(*deed[1:])
            self.assertEqual(rows_behind(hall, hall.store, 0, 0, 6), [("store", 0, 0, 6), ("shade", 1)])
            self.assertEqual((colour(hall, 1), hall.left(), hall.cost()), ("grey", 3, (0, 0)))
            self.assertEqual(hall.memory().at(1), hall.hands()[6])
            hall.step(1000)
            self.assertEqual(things(hall)[:4], [0, 1, 2, 3])
            hall.begin()
            hall.step(1000)
            self.assertNotIn(1, things(hall))

    def test_a_thing_without_fields_is_black_at_once(self):
        hall = chain()
        hall.begin()
        self.assertEqual(rows_behind(hall, hall.store, 0, 1, 7), [("store", 0, 1, 7), ("shade", 2)])
        self.assertEqual((colour(hall, 2), hall.left()), ("black", 2))

    def test_a_white_things_field(self):
        hall = chain()
        hall.begin()
        self.assertEqual(rows_behind(hall, hall.load, 1, 0, 0), [("load", 1, 0, 0)])
        self.assertEqual(colour(hall, 1), "white")
        self.assertEqual(rows_behind(hall, hall.store, 1, 0, 7), [("store", 1, 0, 7), ("shade", 3)])
        self.assertEqual(all_colours(hall), "gwwgw")
        self.assertEqual(rows_behind(hall, hall.store, 1, 0, 1), [("store", 1, 0, 1)])
        self.assertEqual(rows_behind(hall, hall.store, 1, 0, 7), [("store", 1, 0, 7), ("shade", 1)])

    def test_a_field_that_is_looked_at(self):
        hall = chain()
        hall.load(1, 0, 0)
        hall.load(3, 1, 0)
        hall.drop(1)
        hall.drop(3)
        hall.begin()
        hall.load(1, 0, 0)
        hall.load(3, 1, 0)
        hall.step(1)
        self.assertEqual(all_colours(hall), "ggwww")
        self.assertEqual(rows_behind(hall, hall.store, 0, 0, 3), [("store", 0, 0, 3)])
        self.assertEqual(rows_behind(hall, hall.store, 0, 0, 7), [("store", 0, 0, 7)])
        self.assertEqual(colour(hall, 3), "white")
        hall.step(1)
        self.assertEqual(colour(hall, 0), "black")
        hall.store(0, 1, 3)
        self.assertEqual(rows_behind(hall, hall.store, 0, 1, 7), [("store", 0, 1, 7)])
        self.assertEqual(colour(hall, 3), "white")

    def test_a_made_things_field(self):
        hall = chain()
        hall.begin()
        hall.load(1, 0, 0)
        hall.make(2, 1)
        hall.store(2, 0, 1)
        self.assertEqual(rows_behind(hall, hall.store, 2, 0, 7), [("store", 2, 0, 7)])
        self.assertEqual(colour(hall, 1), "white")

    def test_fields_that_tell_no_white_thing(self):
        hall = Marker(0, 40)
        hall.make(0, 6)
        hall.make(1, 1)
        hall.make(2, 0)
        hall.number(3, 5)
        for k, h in ((0, 0), (1, 1), (2, 2), (3, 3)):
            hall.store(0, k, h)
        hall.begin()
        hall.make(4, 0)
        hall.store(0, 4, 4)
        for k in range(6):
            self.assertEqual(rows_behind(hall, hall.store, 0, k, 7), [("store", 0, k, 7)])

    def test_out_of_a_round(self):
        hall = chain()
        self.assertEqual(rows_behind(hall, hall.store, 0, 0, 7), [("store", 0, 0, 7)])


class ReadTest(unittest.TestCase):
    def named(self):
        """Weak name 0 names thing 0 (in hand 0), 5 thing 1 (not reached), which tells 2, 6 thing 2."""
        hall = Marker(0, 20)
        hall.make(0, 1)
        hall.make(1, 2)
        hall.make(2, 0)
        hall.store(1, 1, 2)
        for w, h in ((0, 0), (5, 1), (6, 2)):
            hall.name(w, h)
        hall.drop(1)
        hall.drop(2)
        return hall

    def test_a_white_thing(self):
        hall = self.named()
        hall.begin()
        self.assertEqual(rows_behind(hall, hall.read, 7, 5), [("read", 7, 5), ("shade", 1)])
        self.assertEqual((hall.hands()[7], all_colours(hall), hall.left(), hall.cost()), (at(7), "ggw", 3, (0, 0)))
        hall.step(1000)
        self.assertEqual((things(hall), hall.names()), ([0, 1, 2], [at(0), None, None, None, None, at(7), at(14), None]))

    def test_a_white_thing_without_fields(self):
        hall = self.named()
        hall.begin()
        self.assertEqual(rows_behind(hall, hall.read, 7, 6), [("read", 7, 6), ("shade", 2)])
        self.assertEqual((all_colours(hall), hall.left()), ("gwb", 1))
        hall.step(1000)
        self.assertEqual(things(hall), [0, 2])

    def test_other_things(self):
        hall = self.named()
        hall.begin()
        hall.make(4, 0)
        hall.name(7, 4)
        hall.read(1, 5)
        for w in (0, 1, 5, 7):
            self.assertEqual(rows_behind(hall, hall.read, 6, w), [("read", 6, w)])
        hall.step(1000)
        self.assertEqual(rows_behind(hall, hall.read, 6, 6), [("read", 6, 6)])
        self.assertEqual(hall.hands()[6], at(14))

    def test_names_of_what_went(self):
        hall = self.named()
        hall.begin()
        hall.step(1000)
        self.assertEqual((hall.names(), hall.book()), ([at(0)] + [None] * 7, [(0, 0)]))
        hall.make(1, 0)
        hall.read(0, 5)
        self.assertIsNone(hall.hands()[0])


class OtherDeedsTest(unittest.TestCase):
    def test_no_other_deed_shades(self):
        for young in (0, 64):
            hall = chain(young)
            hall.begin()
            before = all_colours(hall)
            for deed in (("load", 1, 0, 0), ("load", 2, 1, 0), ("copy", 3, 1), ("name", 0, 1), ("word", 1, 5), ("number", 4, 5),
                         ("drop", 3), ("take",), ("small",), ("kind", 1), ("fields", 1), ("same", 1, 2)):
                rows = rows_behind(hall, getattr(hall, deed[0]), *deed[1:])
                self.assertEqual([row for row in rows if row[0] == "shade"], [])
                self.assertEqual((all_colours(hall), hall.left()), (before, 2))
            hall.make(4, 3)
            self.assertEqual((all_colours(hall), hall.left()), (before + "b", 2))

    def test_what_load_told_stays(self):
        hall = chain()
        hall.begin()
        hall.load(1, 0, 0)
        hall.store(0, 0, 7)
        hall.drop(0)
        hall.step(1000)
        self.assertEqual(things(hall), [0, 1, 2, 3])
        self.assertEqual((hall.fields(1), hall.hands()[1]), (1, at(7)))


class StepTest(unittest.TestCase):
    def test_fewer_just_as_many_and_more_than_are_left(self):
        for steps, ended in (([4], [False]), ([5], [True]), ([6], [True]), ([1000], [True]), ([2, 3], [False, True]),
                             ([1] * 5, [False] * 4 + [True]), ([3, 1, 2], [False, False, True])):
            hall = chain()
            hall.begin()
            self.assertEqual([hall.step(k) for k in steps], ended)
            self.assertIs(hall.round_on(), not ended[-1])
            self.assertLessEqual(hall.cost()[0], steps[-1])
            self.assertEqual(hall.cost()[1], 0)

    def test_none_left_at_all(self):
        for deed in (lambda hall: hall.drop(0), lambda hall: hall.make(0, 0), lambda hall: hall.number(0, 1)):
            hall = Marker(0, 20)
            hall.make(0, 3)
            deed(hall)
            hall.begin()
            self.assertEqual((hall.left(), hall.held() >= 4), (0, True))
            self.assertEqual(rows_behind(hall, hall.step, 1), [("end",)])
            self.assertEqual((hall.cost(), 0 in things(hall), hall.round_on()), ((0, 0), False, False))

    def test_a_round_on_an_empty_hall(self):
        hall = Marker(7, 7)
        hall.begin()
        self.assertIs(hall.step(1), True)
        self.assertEqual(hall.log(), [("room", 49, True), ("small",), ("begin",), ("end",)])

    def test_white_things_are_gone(self):
        hall = Marker(0, 30)
        for h, x in ((0, 30), (1, 10), (2, 20), (3, 40)):
            hall.make(h, 1)
            hall.word(h, x)
            hall.name(h, h)
        for h in (3, 0, 1):
            hall.drop(h)
        hall.begin()
        self.assertEqual((things(hall), hall.held(), hall.take()), ([0, 1, 2, 3], 8, None))
        self.assertIs(hall.step(1), True)
        self.assertEqual((hall.book(), hall.held()), ([(2, 14)], 2))
        self.assertEqual(words(hall.memory()), [None] * 14 + [head(2, 1)] + [None] * 195)
        self.assertEqual(hall.names(), [None, None, at(14)] + [None] * 5)
        self.assertEqual([hall.take() for _ in range(4)], [30, 10, 40, None])

    def test_the_next_round_has_its_own_colours(self):
        hall = chain()
        hall.begin()
        hall.make(5, 1)
        hall.step(1000)
        self.assertEqual(hall.colours(), [])
        hall.drop(5)
        hall.begin()
        self.assertEqual(all_colours(hall), "gwwww")
        hall.step(1000)
        self.assertEqual(things(hall), [0, 1, 2, 3])


class SmallRoundTest(unittest.TestCase):
    def test_hands_and_chains_of_young_things(self):
        hall = Marker(30, 40)
        hall.make(0, 1)
        hall.make(1, 2)
        hall.store(0, 0, 1)
        hall.make(2, 0)
        hall.store(1, 1, 2)
        hall.make(3, 1)
        hall.store(3, 0, 0)
        for h in (1, 2, 3):
            hall.drop(h)
        self.assertEqual(rows_behind(hall, hall.small), [("small",)])
        self.assertEqual((hall.book(), hall.cost(), hall.held()), ([(0, 0), (1, 7), (2, 14)], (3, 0), 6))
        self.assertEqual(words(hall.memory())[:28], [head(0, 1), at(7)] + [None] * 5 + [head(1, 2), None, at(14)] + [None] * 4
                         + [head(2, 0)] + [None] * 13)

    def test_rings_and_things_told_twice(self):
        hall = Marker(30, 40)
        for h in range(4):
            hall.make(h, 2)
        for g, k, h in ((0, 0, 0), (0, 1, 1), (1, 0, 0), (1, 1, 1), (2, 0, 3), (3, 0, 2)):
            hall.store(g, k, h)
        hall.copy(5, 0)
        for h in (1, 2, 3):
            hall.drop(h)
        hall.small()
        self.assertEqual((things(hall), hall.cost()), ([0, 1], (4, 0)))

    def test_remembered_fields(self):
        hall = Marker(30, 40)
        hall.make(0, 3)
        hall.small()
        hall.make(1, 1)
        hall.make(2, 0)
        hall.store(1, 0, 2)
        hall.store(0, 2, 1)
        hall.make(3, 0)
        hall.store(0, 1, 3)
        hall.store(0, 1, 0)
        for h in (1, 2, 3):
            hall.drop(h)
        hall.small()
        self.assertEqual((hall.book(), hall.cost()), ([(0, 0), (1, 7), (2, 14)], (2, 0)))
        hall.small()
        self.assertEqual(hall.cost(), (0, 0))

    def test_fields_of_old_things_that_no_hand_leads_to(self):
        hall = Marker(30, 40)
        hall.make(0, 1)
        hall.small()
        hall.make(1, 0)
        hall.store(0, 0, 1)
        hall.drop(0)
        hall.drop(1)
        hall.small()
        self.assertEqual(things(hall), [0, 1])
        hall.begin()
        hall.step(1)
        self.assertEqual(things(hall), [])

    def test_no_other_field_of_an_old_thing_is_looked_at(self):
        hall = Marker(7, 400)
        for _ in range(40):
            hall.make(1, 6)
            hall.store(1, 0, 0)
            hall.copy(0, 1)
        hall.small()
        hall.make(1, 1)
        hall.store(0, 3, 1)
        hall.drop(1)
        hall.small()
        self.assertEqual(hall.cost(), (2, 0))

    def test_the_young_room_just_full_and_one_word_more(self):
        for young, counts in ((7, [6]), (8, [3, 3]), (64, [6] * 9 + [0])):
            hall = Marker(young, 400)
            for n in counts:
                hall.make(0, n)
            self.assertNotIn(("small",), hall.log())
            last = len(counts)
            self.assertEqual(things(hall), list(range(last)))
            a = 7 if last == 1 else 0
            self.assertEqual(rows_behind(hall, hall.make, 1, 0), [("small",), ("make", 1, 0, last, a)])
            self.assertEqual(hall.book(), [(last - 1, 7 * (last - 1)), (last, a)])
            self.assertEqual(hall.cost(), (counts[-1], 0))

    def test_what_the_hand_held_counts(self):
        hall = Marker(7, 20)
        hall.make(3, 6)
        hall.make(3, 6)
        self.assertEqual(hall.book(), [(0, 0), (1, 7)])

    def test_without_a_young_room_nothing_goes(self):
        hall = Marker(0, 20)
        hall.make(0, 2)
        hall.drop(0)
        self.assertEqual(rows_behind(hall, hall.small), [("small",)])
        self.assertEqual((things(hall), hall.cost()), ([0], (0, 0)))

    def test_names_and_last_words(self):
        hall = Marker(20, 40)
        for h, x in ((0, 3), (1, 1), (2, 2)):
            hall.make(h, 0)
            hall.word(h, x)
            hall.name(h, h)
        hall.drop(2)
        hall.drop(0)
        hall.small()
        self.assertEqual(hall.names(), [None, at(7)] + [None] * 6)
        self.assertEqual([hall.take() for _ in range(3)], [3, 2, None])

    def test_read_brings_back_a_young_thing(self):
        hall = Marker(20, 40)
        hall.make(0, 1)
        hall.name(2, 0)
        hall.drop(0)
        hall.read(1, 2)
        hall.small()
        self.assertEqual((things(hall), hall.hands()[1]), ([0], at(0)))


class Expected:
    """What 10.2 and 10.3 tell of colours and rows, worked out anew on an ideal heap behind each deed."""

    def __init__(self, ideal):
        self.ideal, self.colour, self.looked, self.rows = ideal, {}, {}, []

    def shade(self, value):
        if value is not None and value[0] == "thing" and self.colour.get(value[1]) == "white":
            self.colour[value[1]] = "grey" if self.ideal.fields_of(value[1]) else "black"
            self.rows.append(("shade", value[1]))

    def ahead(self, deed):
        """The rows behind this deed's own; asked ahead of it, as store writes over what it shades."""
        self.rows = []
        if deed[0] == "store" and self.ideal.kind(deed[1]) == "thing":
            t = self.ideal.hands()[deed[1]][1]
            if self.colour.get(t) in ("white", "grey") and deed[2] not in self.looked.get(t, []):
                self.shade(self.ideal.fields_of(t)[deed[2]])
        if deed[0] == "read" and self.ideal.names()[deed[2]] is not None:
            self.shade(("thing", self.ideal.names()[deed[2]]))
        return self.rows

    def begin(self):
        self.rows = []
        self.colour = {t: "white" for t in self.ideal.things()}
        self.looked = {t: [] for t in self.ideal.things()}
        for value in self.ideal.hands():
            self.shade(value)
        return [("small",), ("begin",)] + self.rows

    def step(self, many):
        self.rows = []
        while many > 0 and "grey" in self.colour.values():
            t = min(t for t in self.colour if self.colour[t] == "grey")
            k = len(self.looked[t])
            self.looked[t].append(k)
            self.rows.append(("look", t, k))
            fields = self.ideal.fields_of(t)
            if k + 1 == len(fields):
                self.colour[t] = "black"
            self.shade(fields[k])
            many -= 1
        if "grey" in self.colour.values():
            return self.rows
        self.colour, self.looked = {}, {}
        return self.rows + [("end",)]

    def left(self):
        return sum(len(self.ideal.fields_of(t)) - len(self.looked[t]) for t in self.colour if self.colour[t] == "grey")

    def colours(self):
        if not self.ideal.round_on():
            return []
        return [(t, self.colour.get(t, "black")) for t in self.ideal.things()]


class DealtTest(unittest.TestCase):
    def deed(self, dealer, ideal):
        h, w = dealer.randrange(8), dealer.randrange(4)
        with_fields = [g for g in range(8) if ideal.kind(g) == "thing" and ideal.fields(g) > 0]
        if not with_fields or dealer.randrange(4) == 0:
            return ("make", h, dealer.choice((0, 1, 2, 2, 3)))
        g = dealer.choice(with_fields)
        k = dealer.randrange(ideal.fields(g))
        return dealer.choice([("load", h, g, k)] * 4 + [("store", g, k, h)] * 5 + [("copy", h, g), ("name", w, g), ("drop", h)]
                             + [("drop", h), ("read", h, w), ("number", h, 1)])

    def check(self, hall, expected, before, due):
        rows = [row[:3] if row[0] == "make" else row for row in hall.log()[before:]]
        self.assertEqual(rows, due)
        self.assertEqual(hall.colours(), expected.colours())
        self.assertEqual(hall.left(), expected.left())

    def run_one(self, young, seed):
        dealer = random.Random(seed)
        mirror = Mirror(Marker(young, 60), IdealHeap(young, 60))
        expected = Expected(mirror.ideal)
        for _ in range(250):
            before = len(mirror.hall.log())
            if dealer.randrange(4) > 0:
                deed = self.deed(dealer, mirror.ideal)
                shades = expected.ahead(deed)
                refused = mirror.both(*deed)[1]
                small = [("small",)] if ("small",) in mirror.hall.log()[before:] else []
                due = small + ([] if refused else [deed] + shades)
            elif mirror.hall.round_on():
                k = dealer.choice((1, 1, 2, 3, 1000))
                due = expected.step(k)
                self.assertIs(mirror.step(k), due[-1] == ("end",))
            else:
                mirror.both("begin")
                due = expected.begin()
            self.check(mirror.hall, expected, before, due)

    def test_colours_and_rows_behind_every_deed(self):
        for young in (0, 7, 64):
            for seed in range(15):
                self.run_one(young, seed)


class LogTest(unittest.TestCase):
    def test_all_rows_of_programs(self):
        hall = Marker(0, 20)
        deeds = (("make", 0, 2), ("number", 1, -4), ("store", 0, 1, 1), ("copy", 2, 0), ("load", 3, 2, 1), ("drop", 1),
                 ("name", 7, 0), ("read", 4, 7), ("word", 4, 9))
        for deed in deeds:
            getattr(hall, deed[0])(*deed[1:])
        hall.take()
        hall.held()
        self.assertEqual(hall.log(), [("room", 140, False), ("make", 0, 2, 0, 0)] + list(deeds[1:]))

    def test_a_whole_log(self):
        hall = chain()
        before = len(hall.log())
        hall.begin()
        hall.load(1, 0, 1)
        hall.store(0, 0, 1)
        hall.make(2, 0)
        hall.step(1)
        hall.small()
        self.assertEqual(refusal(hall.load, 0, 7, 0), "BadHand")
        hall.step(1000)
        self.assertEqual(hall.log()[before:], [
            ("small",), ("begin",), ("shade", 0), ("load", 1, 0, 1), ("store", 0, 0, 1), ("shade", 1), ("make", 2, 0, 5, 35),
            ("look", 0, 0), ("shade", 2), ("small",), ("look", 0, 1), ("look", 1, 0), ("shade", 3), ("look", 3, 0),
            ("look", 3, 1), ("end",)])
        self.assertEqual(LogReader(hall.log()).gone, [[], [], [], [4]])

    def test_no_row_of_a_move(self):
        hall = chain(20)
        hall.begin()
        hall.make(5, 6)
        hall.small()
        hall.step(1000)
        self.assertNotIn("move", [row[0] for row in hall.log()])


class RefusalTest(HallRefusals, unittest.TestCase):
    def new_hall(self, limit):
        return Marker(0, limit)


class YoungRefusalTest(HallRefusals, unittest.TestCase):
    def new_hall(self, limit):
        return Marker(64, limit)

    def test_bad_counts_go_ahead_of_the_small_round(self):
        hall = Marker(7, 7)
        hall.make(0, 6)
        before = hall_told(hall)
        self.assertEqual(refusal(hall.make, 0, 7), "BadCount")
        self.assertEqual(refusal(hall.make, 8, 6), "BadHand")
        self.assertEqual(hall_told(hall), before)

    def test_begin_within_a_round_does_no_small_round(self):
        hall = chain(20)
        hall.begin()
        hall.make(3, 2)
        before = hall_told(hall)
        self.assertEqual(refusal(hall.begin), "RoundOn")
        self.assertEqual(hall_told(hall), before)


class CostTest(unittest.TestCase):
    def test_the_last_deed_or_turn_alone_counts(self):
        hall = chain()
        hall.begin()
        self.assertEqual(hall.cost(), (0, 0))
        for deed in (("copy", 5, 0), ("drop", 5), ("number", 5, 1), ("name", 0, 0), ("word", 0, 1), ("take",), ("make", 5, 0),
                     ("load", 5, 0, 0), ("store", 0, 1, 5), ("read", 5, 0), ("small",)):
            hall.step(1)
            self.assertEqual(hall.cost(), (1, 0))
            getattr(hall, deed[0])(*deed[1:])
            self.assertEqual(hall.cost(), (0, 0), deed)
            if not hall.round_on():
                hall.begin()

    def test_asks_do_nothing(self):
        hall = chain()
        hall.begin()
        hall.step(3)
        before = hall_told(hall)
        self.assertEqual(before["cost"], (3, 0))
        for ask in (("kind", 0), ("fields", 0), ("same", 0, 1), ("held",), ("round_on",), ("book",), ("left",), ("colours",)):
            getattr(hall, ask[0])(*ask[1:])
            self.assertEqual(hall_told(hall), before)


class OwnTest(unittest.TestCase):
    def test_what_is_told_is_the_askers_own(self):
        hall = chain()
        hall.name(0, 0)
        hall.begin()
        before = hall_told(hall)
        hall.memory().put(0, FIVE)
        hall.hands()[0] = None
        hall.names()[0] = None
        hall.book().append((9, 9))
        hall.log().append(("end",))
        hall.colours().append((9, "white"))
        self.assertEqual(hall_told(hall), before)

    def test_deeds_tell_none(self):
        mirror = Mirror(Marker(7, 20), IdealHeap(7, 20))
        for deed in (("make", 0, 1), ("number", 1, 5), ("store", 0, 0, 1), ("load", 2, 0, 0), ("copy", 3, 0), ("name", 0, 0),
                     ("read", 4, 0), ("word", 0, 1), ("drop", 3), ("take",), ("small",), ("begin",)):
            self.assertEqual(mirror.both(*deed), (None, None))

    def test_two_side_by_side(self):
        one, other = chain(7), chain(7)
        before = hall_told(other)
        one.begin()
        one.make(1, 3)
        one.step(1000)
        self.assertEqual(hall_told(other), before)


if __name__ == "__main__":
    unittest.main()
