import unittest

from stillheap.ideal import IdealHeap
from stillheap.mover import OldMover
from tests.helpers import HallRefusals, LogReader, Mirror, at, hall_told, head, refusal, rows_behind, words

FIVE = ("number", 5)
DEEDS = ("make", "load", "store", "copy", "drop", "number", "name", "read", "word")


def chain(limit):
    """Hand 0 holds thing 0, whose two fields tell 1 and 2; 1 tells 3; 4, of one field, is not reached."""
    hall = OldMover(limit)
    hall.make(0, 2)
    hall.make(1, 1)
    hall.store(0, 0, 1)
    hall.make(2, 0)
    hall.store(0, 1, 2)
    hall.make(3, 2)
    hall.store(1, 0, 3)
    hall.make(4, 1)
    for h in (1, 2, 3, 4):
        hall.drop(h)
    return hall


class NewHallTest(unittest.TestCase):
    def test_limits(self):
        for limit in (7, 8, 400):
            hall = OldMover(limit)
            self.assertEqual(words(hall.memory()), [None] * (2 * limit))
            self.assertEqual(hall.log(), [("room", 2 * limit, False)])
        for limit in (6, 401, 0, -7, 10 ** 9):
            self.assertEqual(refusal(OldMover, limit), "BadCount")

    def test_what_it_tells_at_first(self):
        hall = OldMover(20)
        self.assertEqual((hall.hands(), hall.names(), hall.book()), ([None] * 8, [None] * 8, []))
        self.assertEqual((hall.half(), hall.left(), hall.cost(), hall.held()), (0, 0, (0, 0), 0))
        self.assertIs(hall.round_on(), False)
        self.assertIsNone(hall.take())
        self.assertEqual([hall.kind(h) for h in range(8)], ["none"] * 8)


class PlacesTest(unittest.TestCase):
    def test_made_things_from_the_end_of_the_half_down(self):
        hall = OldMover(12)
        self.assertIsNone(hall.make(0, 2))
        hall.make(1, 0)
        hall.make(0, 3)
        self.assertEqual(hall.book(), [(0, 9), (1, 8), (2, 4)])
        self.assertEqual(words(hall.memory())[:12], [None] * 4 + [
            head(2, 3), None, None, None, head(1, 0), head(0, 2), None, None])
        self.assertEqual(hall.hands()[:2], [at(4), at(8)])
        self.assertEqual(hall.held(), 8)

    def test_the_limit_just_full_and_one_word_more(self):
        for limit, counts in ((7, [6]), (10, [6, 2]), (400, [6] * 57 + [0])):
            hall = OldMover(limit)
            for n in counts:
                hall.make(0, n)
            self.assertEqual((hall.held(), hall.book()[-1][1]), (limit, 0))
            before = hall_told(hall)
            self.assertEqual(refusal(hall.make, 1, 0), "NoRoom")
            self.assertEqual(hall_told(hall), before)

    def test_the_limit_is_full_in_a_round_too(self):
        hall = OldMover(8)
        hall.make(0, 3)
        hall.make(1, 2)
        hall.drop(1)
        hall.begin()
        hall.make(1, 0)
        self.assertEqual(hall.book(), [(0, 8), (1, 1), (2, 15)])
        self.assertEqual(refusal(hall.make, 1, 0), "NoRoom")
        self.assertIs(hall.step(1000), True)
        hall.make(1, 2)
        self.assertEqual(hall.book(), [(0, 8), (2, 15), (3, 12)])
        self.assertEqual(refusal(hall.make, 1, 0), "NoRoom")

    def test_moved_things_from_the_beginning_up_and_made_ones_from_the_end_down(self):
        hall = chain(20)
        self.assertEqual(hall.half(), 0)
        self.assertIsNone(hall.begin())
        self.assertEqual(hall.half(), 20)
        hall.make(5, 1)
        hall.step(1)
        hall.make(6, 0)
        hall.step(1000)
        self.assertEqual(hall.book(), [(0, 20), (1, 23), (2, 25), (3, 26), (5, 38), (6, 37)])
        self.assertEqual(hall.half(), 20)
        hall.make(7, 0)
        self.assertEqual(hall.book()[-1], (7, 36))
        hall.begin()
        self.assertEqual(hall.half(), 0)
        self.assertEqual(hall.book()[-3:], [(5, 3), (6, 5), (7, 6)])
        hall.make(7, 4)
        self.assertEqual(hall.book()[-1], (8, 15))


class BeginTest(unittest.TestCase):
    def test_hands_in_order_a_thing_in_two_hands_once(self):
        hall = OldMover(20)
        hall.make(5, 1)
        hall.make(3, 0)
        hall.make(0, 2)
        hall.copy(7, 3)
        hall.copy(1, 5)
        hall.number(2, 5)
        rows = rows_behind(hall, hall.begin)
        self.assertEqual(hall.hands(), [at(20), at(23), FIVE, at(25), None, at(23), None, at(25)])
        self.assertEqual(rows, [
            ("small",), ("begin",), ("shade", 2), ("move", 2, 20), ("shade", 0), ("move", 0, 23),
            ("shade", 1), ("move", 1, 25)])
        self.assertEqual((hall.cost(), hall.left()), ((0, 6), 3))
        self.assertEqual(words(hall.memory())[14:20], [
            ("moved", 20, 2), None, None, ("moved", 25, 0), ("moved", 23, 1), None])
        self.assertIs(hall.round_on(), True)

    def test_eight_things_of_six_fields_are_the_dearest_begin(self):
        hall = OldMover(56)
        for h in range(8):
            hall.make(h, 6)
        hall.begin()
        self.assertEqual((hall.cost(), hall.left()), ((0, 56), 48))

    def test_old_fields_stay_behind_a_forward(self):
        hall = chain(20)
        before = words(hall.memory())
        hall.begin()
        hall.step(2)
        behind = words(hall.memory())
        self.assertEqual(behind[17:20], [("moved", 20, 2), at(15), at(14)])
        self.assertEqual(behind[15:17], [("moved", 23, 1), at(11)])
        self.assertEqual(behind[14], ("moved", 25, 0))
        self.assertEqual(behind[:14], before[:14])


class LookTest(unittest.TestCase):
    def test_things_in_the_order_of_moving_places_in_order(self):
        hall = chain(20)
        hall.begin()
        self.assertEqual((hall.left(), hall.book()[1]), (2, (1, 15)))
        self.assertEqual(rows_behind(hall, hall.step, 1), [("look", 0, 0), ("shade", 1), ("move", 1, 23)])
        self.assertEqual((hall.left(), hall.cost()), (2, (1, 2)))
        self.assertEqual(words(hall.memory())[20:25], [head(0, 2), at(23), at(14), head(1, 1), at(11)])
        self.assertEqual(rows_behind(hall, hall.step, 1), [("look", 0, 1), ("shade", 2), ("move", 2, 25)])
        self.assertEqual((hall.left(), hall.cost()), (1, (1, 1)))
        self.assertEqual(rows_behind(hall, hall.step, 1), [("look", 1, 0), ("shade", 3), ("move", 3, 26)])
        self.assertEqual(hall.left(), 2)
        self.assertEqual(rows_behind(hall, hall.step, 1), [("look", 3, 0)])
        self.assertEqual((hall.left(), hall.cost()), (1, (1, 0)))
        self.assertEqual(rows_behind(hall, hall.step, 1), [("look", 3, 1), ("end",)])
        self.assertEqual((hall.left(), hall.cost()), (0, (1, 0)))

    def test_what_was_moved_is_not_moved_again(self):
        hall = OldMover(20)
        hall.make(0, 3)
        hall.store(0, 0, 0)
        hall.make(1, 1)
        hall.store(0, 1, 1)
        hall.store(0, 2, 1)
        hall.store(1, 0, 0)
        hall.begin()
        rows = rows_behind(hall, hall.step, 1000)
        self.assertEqual(rows, [("look", 0, 0), ("look", 0, 1), ("look", 0, 2), ("look", 1, 0), ("end",)])
        self.assertEqual(words(hall.memory())[20:26], [head(0, 3), at(20), at(24), at(24), head(1, 1), at(20)])


class LoadTest(unittest.TestCase):
    def test_a_thing_in_the_half_of_before_is_moved_first(self):
        hall = chain(20)
        hall.begin()
        rows = rows_behind(hall, hall.load, 3, 0, 1)
        self.assertEqual(rows, [("load", 3, 0, 1), ("shade", 2), ("move", 2, 23)])
        self.assertEqual((hall.hands()[3], hall.memory().at(22), hall.cost()), (at(23), at(23), (0, 1)))
        self.assertEqual(hall.left(), 2)
        rows = rows_behind(hall, hall.load, 4, 0, 1)
        self.assertEqual((rows, hall.hands()[4], hall.cost()), ([("load", 4, 0, 1)], at(23), (0, 0)))

    def test_what_load_moved_is_looked_through_in_its_turn(self):
        hall = chain(20)
        hall.begin()
        hall.load(1, 0, 0)
        self.assertEqual((hall.left(), hall.cost(), hall.hands()[1]), (3, (0, 2), at(23)))
        hall.load(2, 1, 0)
        self.assertEqual((hall.left(), hall.cost(), hall.hands()[2]), (5, (0, 3), at(25)))
        looks = [row for row in rows_behind(hall, hall.step, 1000) if row[0] == "look"]
        self.assertEqual(looks, [("look", 0, 0), ("look", 0, 1), ("look", 1, 0), ("look", 3, 0), ("look", 3, 1)])

    def test_where_a_forward_is(self):
        hall = OldMover(20)
        hall.make(0, 2)
        hall.make(1, 0)
        hall.store(0, 1, 1)
        hall.begin()
        self.assertEqual(hall.memory().at(22), at(16))
        rows = rows_behind(hall, hall.load, 2, 0, 1)
        self.assertEqual((rows, hall.hands()[2], hall.cost()), ([("load", 2, 0, 1)], at(23), (0, 0)))
        self.assertEqual(hall.memory().at(22), at(23))
        self.assertIs(hall.same(1, 2), True)

    def test_numbers_and_none_from_fields_not_looked_through(self):
        hall = OldMover(20)
        hall.make(0, 2)
        hall.number(1, 5)
        hall.store(0, 0, 1)
        hall.begin()
        hall.load(2, 0, 0)
        hall.load(1, 0, 1)
        self.assertEqual((hall.hands()[1:3], hall.left()), ([None, FIVE], 2))

    def test_into_the_hand_that_holds_the_thing(self):
        hall = chain(20)
        hall.begin()
        hall.load(0, 0, 0)
        hall.load(0, 0, 0)
        self.assertEqual((hall.fields(0), hall.hands()[0]), (2, at(25)))


class ReadTest(unittest.TestCase):
    def named(self):
        """Weak names 0 and 3 name thing 0 (in hand 0), 5 names thing 1 (not reached), which tells 2."""
        hall = OldMover(20)
        hall.make(0, 1)
        hall.make(1, 2)
        hall.make(2, 0)
        hall.store(1, 1, 2)
        hall.name(0, 0)
        hall.name(3, 0)
        hall.name(5, 1)
        hall.drop(1)
        hall.drop(2)
        return hall

    def test_a_thing_in_the_half_of_before_is_moved_first(self):
        hall = self.named()
        hall.begin()
        self.assertEqual(hall.names(), [at(18), None, None, at(18), None, at(15), None, None])
        rows = rows_behind(hall, hall.read, 7, 5)
        self.assertEqual(rows, [("read", 7, 5), ("shade", 1), ("move", 1, 22)])
        self.assertEqual((hall.hands()[7], hall.names()[5], hall.cost()), (at(22), at(22), (0, 3)))
        self.assertEqual(hall.left(), 3)
        hall.step(1000)
        self.assertEqual([t for t, a in hall.book()], [0, 1, 2])

    def test_where_a_forward_is(self):
        hall = self.named()
        hall.begin()
        rows = rows_behind(hall, hall.read, 6, 3)
        self.assertEqual((rows, hall.hands()[6], hall.cost()), ([("read", 6, 3)], at(20), (0, 0)))
        self.assertEqual(hall.names()[3], at(20))
        self.assertEqual(rows_behind(hall, hall.read, 6, 3), [("read", 6, 3)])

    def test_names_of_nothing_and_out_of_rounds(self):
        hall = self.named()
        hall.read(0, 1)
        self.assertIsNone(hall.hands()[0])
        hall.read(4, 5)
        self.assertEqual(hall.hands()[4], at(15))
        hall.begin()
        hall.read(4, 1)
        self.assertIsNone(hall.hands()[4])

    def test_at_the_end_names_tell_the_new_addresses_or_nothing(self):
        hall = self.named()
        hall.begin()
        hall.step(1000)
        self.assertEqual(hall.names(), [at(20), None, None, at(20), None, None, None, None])
        hall.read(1, 5)
        self.assertIsNone(hall.hands()[1])

    def test_naming_anew_within_a_round(self):
        hall = self.named()
        hall.begin()
        hall.make(1, 0)
        hall.name(5, 1)
        hall.name(1, 0)
        self.assertEqual(hall.names(), [at(18), at(20), None, at(18), None, at(39), None, None])
        hall.step(1000)
        self.assertEqual(hall.names(), [at(20), at(20), None, at(20), None, at(39), None, None])


class StoreTest(unittest.TestCase):
    def test_the_thing_that_the_field_tells_is_moved_first(self):
        for value in ("drop", "number", "copy"):
            hall = chain(20)
            hall.begin()
            parts = {"drop": (3,), "number": (3, 5), "copy": (3, 0)}[value]
            getattr(hall, value)(*parts)
            rows = rows_behind(hall, hall.store, 0, 0, 3)
            self.assertEqual(rows, [("store", 0, 0, 3), ("shade", 1), ("move", 1, 23)])
            self.assertEqual((hall.cost(), hall.left()), ((0, 2), 3))
            self.assertEqual(hall.memory().at(21), {"drop": None, "number": FIVE, "copy": at(20)}[value])
            hall.step(1000)
            self.assertEqual([t for t, a in hall.book()], [0, 1, 2, 3])
            hall.begin()
            hall.step(1000)
            self.assertEqual([t for t, a in hall.book()], [0, 2])

    def test_a_field_that_tells_a_forward_a_number_or_none(self):
        hall = OldMover(30)
        hall.make(0, 3)
        hall.make(1, 0)
        hall.number(2, 5)
        hall.store(0, 0, 1)
        hall.store(0, 1, 2)
        hall.begin()
        for k in range(3):
            self.assertEqual(rows_behind(hall, hall.store, 0, k, 1), [("store", 0, k, 1)])
            self.assertEqual((hall.cost(), hall.memory().at(31 + k)), ((0, 0), at(34)))
        self.assertEqual(hall.left(), 3)

    def test_a_field_that_is_looked_through(self):
        hall = chain(20)
        hall.begin()
        hall.step(1)
        self.assertEqual(rows_behind(hall, hall.store, 0, 0, 7), [("store", 0, 0, 7)])
        self.assertEqual(hall.cost(), (0, 0))

    def test_a_stored_field_is_looked_through_once_in_its_turn(self):
        hall = chain(20)
        hall.begin()
        hall.store(0, 1, 0)
        self.assertEqual(hall.left(), 2)
        rows = rows_behind(hall, hall.step, 1000)
        self.assertEqual([row for row in rows if row[0] == "look"], [
            ("look", 0, 0), ("look", 0, 1), ("look", 1, 0), ("look", 3, 0), ("look", 3, 1)])

    def test_a_made_thing_is_not_looked_through(self):
        hall = chain(20)
        hall.begin()
        hall.make(1, 3)
        self.assertEqual(hall.left(), 2)
        self.assertEqual(rows_behind(hall, hall.store, 1, 0, 0), [("store", 1, 0, 0)])
        hall.drop(1)
        rows = rows_behind(hall, hall.step, 1000)
        self.assertEqual([row for row in rows if row[:2] == ("look", 5)], [])
        self.assertIn((5, 36), hall.book())


class StepTest(unittest.TestCase):
    def test_fewer_just_as_many_and_more_than_are_left(self):
        for steps, ended in (([4], [False]), ([5], [True]), ([6], [True]), ([1000], [True]), ([2, 3], [False, True]),
                             ([1] * 5, [False] * 4 + [True]), ([3, 1, 2], [False, False, True])):
            hall = chain(20)
            hall.begin()
            self.assertEqual([hall.step(k) for k in steps], ended)
            self.assertIs(hall.round_on(), not ended[-1])
            self.assertLessEqual(hall.cost()[0], steps[-1])

    def test_fields_that_come_while_looking_count(self):
        hall = chain(20)
        hall.begin()
        self.assertEqual(hall.left(), 2)
        self.assertIs(hall.step(4), False)
        self.assertEqual((hall.left(), hall.cost()), (1, (4, 6)))

    def test_a_round_with_empty_hands(self):
        hall = OldMover(20)
        hall.make(0, 3)
        hall.drop(0)
        hall.begin()
        self.assertEqual((hall.left(), hall.cost(), hall.held()), (0, (0, 0), 4))
        self.assertEqual(rows_behind(hall, hall.step, 1), [("end",)])
        self.assertEqual((hall.cost(), hall.held(), hall.book()), ((0, 0), 0, []))

    def test_a_round_on_an_empty_hall(self):
        hall = OldMover(7)
        hall.begin()
        self.assertIs(hall.round_on(), True)
        self.assertIs(hall.step(1), True)
        self.assertIs(hall.round_on(), False)
        self.assertEqual(hall.log(), [("room", 14, False), ("small",), ("begin",), ("end",)])

    def test_things_without_fields_are_passed(self):
        hall = OldMover(20)
        for h in range(3):
            hall.make(h, 0)
        hall.begin()
        self.assertEqual(hall.left(), 0)
        self.assertIs(hall.step(1), True)
        self.assertEqual(hall.book(), [(0, 20), (1, 21), (2, 22)])

    def test_behind_the_end_the_half_of_before_is_none(self):
        hall = chain(20)
        hall.begin()
        hall.step(1000)
        self.assertEqual(words(hall.memory()), [None] * 20 + [
            head(0, 2), at(23), at(25), head(1, 1), at(26), head(2, 0), head(3, 2), None, None] + [None] * 11)
        hall.begin()
        hall.step(1000)
        self.assertEqual(words(hall.memory())[20:], [None] * 20)
        self.assertEqual((hall.half(), hall.book()), (0, [(0, 0), (1, 3), (2, 5), (3, 6)]))

    def test_what_went(self):
        hall = chain(20)
        hall.begin()
        self.assertEqual([t for t, a in hall.book()], [0, 1, 2, 3, 4])
        self.assertEqual(hall.held(), 11)
        hall.step(1000)
        self.assertEqual([t for t, a in hall.book()], [0, 1, 2, 3])
        self.assertEqual(hall.held(), 9)

    def test_last_words_are_said_at_the_end(self):
        hall = OldMover(30)
        for h, x in ((0, 30), (1, 10), (2, 20), (3, 40)):
            hall.make(h, 0)
            hall.word(h, x)
        for h in (3, 0, 1):
            hall.drop(h)
        hall.begin()
        self.assertIsNone(hall.take())
        hall.step(1)
        self.assertEqual([hall.take() for _ in range(4)], [30, 10, 40, None])


class LogTest(unittest.TestCase):
    def test_all_rows_of_programs(self):
        hall = OldMover(20)
        deeds = (("make", 0, 2), ("number", 1, -4), ("store", 0, 1, 1), ("copy", 2, 0), ("load", 3, 2, 1), ("drop", 1),
                 ("name", 7, 0), ("read", 4, 7), ("word", 4, 9))
        for deed in deeds:
            getattr(hall, deed[0])(*deed[1:])
        hall.take()
        hall.held()
        self.assertEqual(hall.log(), [("room", 40, False), ("make", 0, 2, 0, 17)] + list(deeds[1:]))
        self.assertEqual(sorted(DEEDS), sorted({deed[0] for deed in deeds}))

    def test_small_is_a_row(self):
        hall = OldMover(20)
        hall.make(0, 2)
        self.assertIsNone(hall.small())
        self.assertEqual(hall.log()[-1], ("small",))
        self.assertEqual((hall.cost(), hall.book()), ((0, 0), [(0, 17)]))

    def test_a_whole_log(self):
        hall = chain(20)
        before = len(hall.log())
        hall.begin()
        hall.load(1, 0, 1)
        hall.store(0, 0, 1)
        hall.make(2, 0)
        hall.step(1)
        hall.small()
        hall.step(1000)
        self.assertEqual(hall.log()[before:], [
            ("small",), ("begin",), ("shade", 0), ("move", 0, 20), ("load", 1, 0, 1), ("shade", 2), ("move", 2, 23),
            ("store", 0, 0, 1), ("shade", 1), ("move", 1, 24), ("make", 2, 0, 5, 39), ("look", 0, 0), ("small",),
            ("look", 0, 1), ("look", 1, 0), ("shade", 3), ("move", 3, 26), ("look", 3, 0), ("look", 3, 1), ("end",)])
        self.assertEqual(LogReader(hall.log()).gone, [[], [], [4]])


class RefusalTest(HallRefusals, unittest.TestCase):
    def new_hall(self, limit):
        return OldMover(limit)


class CostTest(unittest.TestCase):
    def test_the_last_deed_or_turn_alone_counts(self):
        hall = chain(20)
        hall.begin()
        self.assertEqual(hall.cost(), (0, 3))
        for deed in (("copy", 5, 0), ("drop", 5), ("number", 5, 1), ("name", 0, 0), ("word", 0, 1), ("take",), ("make", 5, 0),
                     ("load", 5, 0, 0), ("store", 0, 1, 5), ("read", 5, 0), ("small",)):
            hall.step(1)
            before = hall.cost()
            self.assertEqual(hall.cost(), before)
            getattr(hall, deed[0])(*deed[1:])
            if deed[0] not in ("load", "store", "read"):
                self.assertEqual(hall.cost(), (0, 0), deed)
            if not hall.round_on():
                hall.begin()

    def test_asks_do_nothing(self):
        hall = chain(20)
        hall.begin()
        hall.step(3)
        before = hall_told(hall)
        self.assertEqual(before["cost"], (3, 6))
        for ask in (("kind", 0), ("fields", 0), ("same", 0, 1), ("held",), ("round_on",), ("book",), ("left",), ("half",)):
            getattr(hall, ask[0])(*ask[1:])
            self.assertEqual(hall_told(hall), before)


class OwnTest(unittest.TestCase):
    def test_what_is_told_is_the_askers_own(self):
        hall = chain(20)
        hall.name(0, 0)
        before = hall_told(hall)
        hall.memory().put(0, FIVE)
        hall.hands()[0] = None
        hall.names()[0] = None
        hall.book().append((9, 9))
        hall.log().append(("end",))
        self.assertEqual(hall_told(hall), before)
        self.assertEqual(hall_told(hall), before)

    def test_deeds_tell_none(self):
        mirror = Mirror(OldMover(20), IdealHeap(0, 20))
        for deed in (("make", 0, 1), ("number", 1, 5), ("store", 0, 0, 1), ("load", 2, 0, 0), ("copy", 3, 0), ("name", 0, 0),
                     ("read", 4, 0), ("word", 0, 1), ("drop", 3), ("take",), ("small",), ("begin",)):
            self.assertEqual(mirror.both(*deed), (None, None))


if __name__ == "__main__":
    unittest.main()
