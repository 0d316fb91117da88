import unittest

from stillheap.ideal import IdealHeap
from stillheap.programs import read_program
from stillheap.running import Running, run_all
from tests.helpers import all_told

GREATEST = 10 ** 60


def rows(*lines):
    return read_program("\n".join(lines))


def ran(*lines):
    return run_all(rows(*lines), IdealHeap(0, 400), 1000)


class AskedHall:
    """A hall that keeps in which order it was asked and told."""

    def __init__(self):
        self.heap = IdealHeap(0, 400)
        self.heap.number(1, 5)
        self.heap.number(2, 3)
        self.asked = []

    def value(self, h):
        self.asked.append(("value", h))
        return self.heap.value(h)

    def number(self, h, x):
        self.asked.append(("number", h, x))
        self.heap.number(h, x)


class DeedRowsTest(unittest.TestCase):
    def test_make_and_say(self):
        self.assertEqual(ran("make 0 3", "say 0", "make 0 0", "say 0"), ([("thing", 3), ("thing", 0)], None, 4))

    def test_say_of_each_kind(self):
        told = [("none",), ("number", -4), ("thing", 2)]
        self.assertEqual(ran("say 0", "number 1 -4", "say 1", "make 2 2", "say 2"), (told, None, 5))

    def test_store_load_copy_drop(self):
        told, fault, steps = ran(
            "make 0 2", "number 1 8", "store 0 1 1", "load 2 0 1", "say 2", "copy 3 2", "say 3", "drop 3",
            "say 3", "load 4 0 0", "say 4",
        )
        self.assertEqual(told, [("number", 8), ("number", 8), ("none",), ("none",)])
        self.assertEqual((fault, steps), (None, 11))

    def test_name_and_read(self):
        told = ran("make 0 1", "name 3 0", "drop 0", "read 5 3", "say 5", "read 5 2", "say 5")[0]
        self.assertEqual(told, [("thing", 1), ("none",)])

    def test_word_gives_the_number_of_the_second_hand(self):
        heap = IdealHeap(0, 400)
        run_all(rows("make 0 0", "number 1 -6", "word 0 1"), heap, 9)
        self.assertEqual(heap.word_of(0), -6)

    def test_take(self):
        heap = IdealHeap(7, 400)
        running = Running(rows(
            "make 0 0", "number 1 0", "word 0 1", "drop 0", "take 2", "say 2", "number 3 9", "take 3", "say 3",
        ), heap)
        for _ in range(4):
            running.step()
        heap.small()
        while running.step():
            pass
        self.assertEqual(running.told(), [("number", 0), ("none",)])

    def test_held(self):
        self.assertEqual(ran("held 0", "say 0", "make 1 6", "make 2 0", "held 1", "say 1")[0], [("number", 0), ("number", 8)])

    def test_add_and_less(self):
        told = ran("number 0 5", "number 1 7", "add 0 1", "say 0", "say 1", "less 1 0", "say 1", "add 1 1", "say 1",
                   "less 1 1", "say 1")[0]
        self.assertEqual([said[1] for said in told], [12, 7, -5, -10, 0])

    def test_sums_at_the_bounds_and_beyond(self):
        for row, first, second, result in (
            ("add 0 1", GREATEST - 1, 1, GREATEST),
            ("add 0 1", GREATEST, 1, None),
            ("add 0 1", GREATEST, GREATEST, None),
            ("add 0 1", 1 - GREATEST, -1, -GREATEST),
            ("add 0 1", -GREATEST, -1, None),
            ("less 0 1", 1 - GREATEST, 1, -GREATEST),
            ("less 0 1", -GREATEST, 1, None),
            ("less 0 1", GREATEST - 1, -1, GREATEST),
            ("less 0 1", GREATEST, -1, None),
        ):
            heap = IdealHeap(0, 400)
            told, fault, steps = run_all(rows(f"number 0 {first}", f"number 1 {second}", row, "say 0"), heap, 9)
            if result is None:
                self.assertEqual((told, fault, steps), ([], "BadCount", 3))
                self.assertEqual(heap.hands()[:2], [("number", first), ("number", second)])
            else:
                self.assertEqual((told, fault, steps), ([("number", result)], None, 4))

    def test_value_is_asked_of_the_first_hand_then_of_the_second(self):
        for row, last in (("add 1 2", [("number", 1, 8)]), ("less 1 2", [("number", 1, 2)])):
            hall = AskedHall()
            run_all(rows(row), hall, 1)
            self.assertEqual(hall.asked, [("value", 1), ("value", 2)] + last)
        hall = AskedHall()
        run_all(rows("below 1 2 a", "mark a"), hall, 1)
        self.assertEqual(hall.asked, [("value", 1), ("value", 2)])
        for row in ("add 3 4", "less 3 4", "add 3 1", "less 3 1"):
            hall = AskedHall()
            self.assertEqual(run_all(rows(row), hall, 1), ([], "BadHand", 1))
            self.assertEqual(hall.asked, [("value", 3)])


class JumpsTest(unittest.TestCase):
    def assert_jumps(self, jumps, *lines):
        told = ran(*(lines[:-1] + (lines[-1] + " far", "say 7", "mark far")))[0]
        self.assertEqual(told, [] if jumps else [("none",)], lines)

    def test_go(self):
        self.assert_jumps(True, "go")

    def test_same(self):
        self.assert_jumps(True, "same 0 1")
        self.assert_jumps(True, "number 0 4", "number 1 4", "same 0 1")
        self.assert_jumps(False, "number 0 4", "number 1 5", "same 0 1")
        self.assert_jumps(True, "make 0 1", "copy 1 0", "same 0 1")
        self.assert_jumps(False, "make 0 1", "make 1 1", "same 0 1")
        self.assert_jumps(False, "make 0 1", "same 0 1")

    def test_below(self):
        self.assert_jumps(True, "number 0 4", "number 1 5", "below 0 1")
        self.assert_jumps(False, "number 0 4", "number 1 4", "below 0 1")
        self.assert_jumps(False, "number 0 5", "number 1 4", "below 0 1")
        self.assert_jumps(True, "number 0 -5", "number 1 4", "below 0 1")

    def test_thing(self):
        self.assert_jumps(True, "make 0 0", "thing 0")
        self.assert_jumps(False, "number 0 1", "thing 0")
        self.assert_jumps(False, "thing 0")

    def test_it_goes_on_at_the_row_of_the_mark(self):
        running = Running(rows("go far", "stop", "stop", "mark far", "say 0"), IdealHeap(0, 400))
        self.assertIs(running.step(), True)
        self.assertEqual((running.at(), running.steps()), (3, 1))
        self.assertIs(running.step(), True)
        self.assertEqual(running.at(), 4)

    def test_back_and_on(self):
        told, fault, steps = ran(
            "number 0 0", "number 1 3", "number 2 1", "mark again", "add 0 2", "say 0", "below 0 1 again", "stop", "say 7",
        )
        self.assertEqual(told, [("number", 1), ("number", 2), ("number", 3)])
        self.assertEqual((fault, steps), (None, 3 + 3 * 4 + 1))

    def test_marks_do_nothing(self):
        self.assertEqual(ran("mark a", "mark b"), ([], None, 2))

    def test_a_jump_to_itself_goes_on(self):
        program = rows("mark a", "go a")
        self.assertEqual(run_all(program, IdealHeap(0, 400), 77), ([], None, 77))


class FaultsTest(unittest.TestCase):
    def assert_fault(self, name, lines, row, young=0, limit=400):
        """The rows run, then the last one ends in the fault and changes nothing."""
        heap = IdealHeap(young, limit)
        running = Running(rows("mark m", *lines, row, "say 0"), heap)
        for _ in range(len(lines) + 1):
            self.assertIs(running.step(), True)
        self.assertIsNone(running.fault())
        before = all_told(heap)
        self.assertIs(running.step(), False)
        self.assertEqual(running.fault(), name, row)
        self.assertEqual(all_told(heap), before, row)
        self.assertEqual((running.at(), running.steps(), running.told()), (None, len(lines) + 2, []))
        self.assertIs(running.step(), False)
        self.assertEqual(running.steps(), len(lines) + 2)

    def test_bad_hands(self):
        for row in (
            "make 8 0", "load 8 0 0", "load 0 8 0", "store 8 0 0", "store 0 0 8", "copy 8 0", "copy 0 8", "drop 8",
            "number 8 0", "name 0 8", "read 8 0", "word 8 1", "word 0 8", "take 8", "held 8", "add 8 1", "add 1 8",
            "less 8 1", "less 1 8", "same 8 0 m", "same 0 8 m", "below 8 1 m", "below 1 8 m", "thing 8 m", "say 8",
            "make 9 7", "load 0 1 0", "load 0 2 0", "store 1 0 0", "name 0 1", "name 0 2", "word 1 1", "word 0 0",
            "word 0 2", "add 0 1", "add 1 0", "add 1 2", "less 0 1", "less 1 2", "below 0 1 m", "below 1 2 m",
            "name 8 1", "read 8 8", "load 0 1 9", f"number 8 {GREATEST + 1}", f"say {GREATEST}",
        ):
            self.assert_fault("BadHand", ("make 0 1", "number 1 7"), row)

    def test_bad_names(self):
        for row in ("name 8 0", "read 0 8", "read 0 99"):
            self.assert_fault("BadName", ("make 0 1",), row)

    def test_bad_fields(self):
        for row in ("load 1 0 1", "store 0 1 1", "load 1 0 6", "store 0 99 0"):
            self.assert_fault("BadField", ("make 0 1",), row)

    def test_bad_counts(self):
        for row in ("make 0 7", "make 0 99", f"number 0 {GREATEST + 1}", f"number 0 {-GREATEST - 1}"):
            self.assert_fault("BadCount", (), row)
        self.assert_fault("BadCount", (f"number 0 {GREATEST}", "number 1 1"), "add 0 1")
        self.assert_fault("BadCount", (f"number 0 {-GREATEST}", "number 1 1"), "less 0 1")

    def test_no_room(self):
        self.assert_fault("NoRoom", ("make 0 6",), "make 0 0", limit=7)

    def test_no_room_behind_a_small_round_that_stays_done(self):
        heap = IdealHeap(7, 8)
        told, fault, steps = run_all(rows("make 0 4", "make 1 0", "drop 1", "make 1 3", "say 0"), heap, 9)
        self.assertEqual((told, fault, steps), ([], "NoRoom", 4))
        self.assertEqual((heap.things(), heap.is_old(0)), ([0], True))

    def test_too_many_words(self):
        bearers = ("number 1 5",) + ("make 0 0", "word 0 1") * 12
        self.assert_fault("TooManyWords", bearers + ("make 0 0",), "word 0 1")

    def test_no_word_is_taken_into_a_hand_that_is_none(self):
        heap = IdealHeap(7, 400)
        heap.make(0, 0)
        heap.word(0, 3)
        heap.drop(0)
        heap.small()
        self.assertEqual(run_all(rows("take 8"), heap, 9), ([], "BadHand", 1))
        self.assertEqual(heap.said(), [3])

    def test_what_was_said_ahead_of_the_fault_is_told(self):
        self.assertEqual(ran("say 0", "drop 8", "say 0"), ([("none",)], "BadHand", 2))


class RunningTest(unittest.TestCase):
    def test_ahead_of_at_and_behind_the_stop(self):
        running = Running(rows("say 0", "stop", "say 0"), IdealHeap(0, 400))
        self.assertEqual((running.at(), running.steps(), running.told(), running.fault()), (0, 0, [], None))
        self.assertIs(running.step(), True)
        self.assertEqual((running.at(), running.steps(), running.told()), (1, 1, [("none",)]))
        for _ in range(2):
            self.assertIs(running.step(), False)
            self.assertEqual((running.at(), running.steps()), (None, 2))
            self.assertEqual((running.told(), running.fault()), ([("none",)], None))

    def test_behind_the_last_row(self):
        running = Running(rows("say 0", "drop 0"), IdealHeap(0, 400))
        self.assertIs(running.step(), True)
        self.assertEqual(running.at(), 1)
        self.assertIs(running.step(), False)
        self.assertEqual((running.at(), running.steps(), running.fault()), (None, 2, None))
        self.assertIs(running.step(), False)
        self.assertEqual(running.steps(), 2)

    def test_a_jump_that_is_the_last_row(self):
        running = Running(rows("mark a", "thing 0 a"), IdealHeap(0, 400))
        running.step()
        self.assertIs(running.step(), False)
        running = Running(rows("mark a", "go a"), IdealHeap(0, 400))
        running.step()
        self.assertIs(running.step(), True)
        self.assertEqual(running.at(), 0)

    def test_told_is_the_askers_own(self):
        running = Running(rows("say 0", "say 0"), IdealHeap(0, 400))
        running.step()
        running.told().append(1)
        self.assertEqual(running.told(), [("none",)])
        self.assertIsNot(running.told(), running.told())
        kept = running.told()
        running.step()
        self.assertEqual(kept, [("none",)])

    def test_it_runs_on_the_hall_that_is_handed_in(self):
        heap = IdealHeap(0, 400)
        Running(rows("make 3 1"), heap).step()
        self.assertEqual(heap.hands()[3], ("thing", 0))


class RunAllTest(unittest.TestCase):
    def test_fewer_as_many_and_more_rows_than_the_program_does(self):
        program = rows("say 0", "number 0 1", "say 0")
        for most, told, steps in ((0, 0, 0), (1, 1, 1), (2, 1, 2), (3, 2, 3), (4, 2, 3), (100, 2, 3)):
            expected = [("none",), ("number", 1)][:told]
            self.assertEqual(run_all(program, IdealHeap(0, 400), most), (expected, None, steps))

    def test_stop_counts(self):
        self.assertEqual(run_all(rows("stop", "say 0"), IdealHeap(0, 400), 10), ([], None, 1))

    def test_a_fault_counts(self):
        self.assertEqual(run_all(rows("drop 0", "drop 9", "say 0"), IdealHeap(0, 400), 10), ([], "BadHand", 2))
        self.assertEqual(run_all(rows("drop 0", "drop 9", "say 0"), IdealHeap(0, 400), 1), ([], None, 1))


if __name__ == "__main__":
    unittest.main()
