import random
import unittest

from stillheap.ideal import IdealHeap
from stillheap.marker import Marker
from stillheap.mover import OldMover
from stillheap.moving import Mover
from stillheap.programs import read_program
from stillheap.weaving import ideal_by, woven
from tests.helpers import dealt_program, hall_told, refusal

# Each row is done once; a thing of three fields stays in hand 0, one of one field is dropped.
SHORT = read_program("make 0 3\nmake 1 1\ndrop 1\nsay 0\nheld 2\nsay 2\nheld 2\nsay 2")
LOOP = read_program("number 0 1\nnumber 1 0\nmark a\nadd 1 0\nmake 2 2\nsay 1\ngo a")


def halls(young=7, limit=40):
    return (Mover(young, limit), Marker(young, limit))


def dealt_work(dealer, many):
    numbers = dealer.choice(((0, 1), (0, 0, 0, 1, 2, 3, -1), (1, 1, 2, -1), (0, 0, 5, 1000), (-1, 1)))
    return [dealer.choice(numbers) for _ in range(many)]


class WorkTest(unittest.TestCase):
    def test_work_of_nothing(self):
        for hall in halls():
            self.assertEqual(woven(SHORT, hall, [], 100), (
                [("thing", 3), ("number", 6), ("number", 6)], None, 8, []))
            self.assertIs(hall.round_on(), False)
            self.assertNotIn(("small",), hall.log())

    def test_noughts_do_nothing(self):
        for hall, other in zip(halls(), halls()):
            woven(SHORT, hall, [0] * 20, 100)
            woven(SHORT, other, [], 100)
            self.assertEqual(hall_told(hall), hall_told(other))

    def test_small(self):
        for hall in halls():
            told = woven(SHORT, hall, [0, 0, -1], 100)
            self.assertEqual(told, ([("thing", 3), ("number", 4), ("number", 4)], None, 8, [(3, "small")]))
        for hall in halls(0):
            told = woven(SHORT, hall, [0, 0, -1], 100)
            self.assertEqual(told, ([("thing", 3), ("number", 6), ("number", 6)], None, 8, [(3, "small")]))

    def test_begin_steps_and_end(self):
        for hall in halls(0):
            told = woven(SHORT, hall, [0, 0, 1000, 1, 1, 0, 1], 100)
            self.assertEqual(told, (
                [("thing", 3), ("number", 6), ("number", 6)], None, 8, [(3, "begin"), (7, "end")]))
            self.assertIs(hall.round_on(), False)
            self.assertEqual(hall.held(), 4)
        for hall in halls(0):
            told = woven(SHORT, hall, [0, 0, 1, 1000, 1], 100)
            self.assertEqual(told, (
                [("thing", 3), ("number", 4), ("number", 4)], None, 8, [(3, "begin"), (4, "end"), (5, "begin")]))
            self.assertIs(hall.round_on(), True)

    def test_a_round_begun_with_young_things(self):
        for hall in halls(20):
            told = woven(SHORT, hall, [0, 0, 1, 3], 100)
            self.assertEqual(told, ([("thing", 3), ("number", 4), ("number", 4)], None, 8, [(3, "begin"), (4, "end")]))

    def test_small_within_a_round(self):
        for hall in halls(20):
            told = woven(SHORT, hall, [1, 1, -1, -1, 2, 1], 100)
            self.assertEqual(told[3], [(1, "begin"), (3, "small"), (4, "small"), (5, "end"), (6, "begin")])
            self.assertEqual(told[0], [("thing", 3), ("number", 4), ("number", 4)])
        for hall in halls(20):
            told = woven(SHORT, hall, [1, -1, -1, 3], 100)
            self.assertEqual(told[3], [(1, "begin"), (2, "small"), (3, "small"), (4, "end")])
            self.assertEqual(told[0], [("thing", 3), ("number", 6), ("number", 6)])

    def test_a_step_that_ends_at_once(self):
        for hall in halls():
            program = read_program("drop 0\ndrop 0\ndrop 0\ndrop 0\ndrop 0")
            self.assertEqual(woven(program, hall, [1, 1, 1, 1], 100)[3], [(1, "begin"), (2, "end"), (3, "begin"), (4, "end")])

    def test_shorter_and_longer_than_the_run(self):
        for hall in halls():
            self.assertEqual(woven(LOOP, hall, [1, 1, 1, 1], 30)[2:], (30, [(1, "begin"), (2, "end"), (3, "begin"), (4, "end")]))
        for hall in halls():
            self.assertEqual(woven(SHORT, hall, [0] * 6 + [-1] * 1994, 100)[3], [(7, "small")])

    def test_a_round_that_was_on(self):
        for hall in halls():
            hall.begin()
            self.assertEqual(woven(SHORT, hall, [1, 0, -1], 100)[3], [(1, "end"), (3, "small")])

    def test_a_program_that_stops_by_the_row(self):
        for text, steps in (("drop 0\nstop\ndrop 0", 2), ("drop 0\ndrop 1", 2), ("drop 0\ndrop 9\ndrop 0", 2), ("stop", 1), ("drop 9", 1)):
            for number in (-1, 1):
                for hall in halls():
                    told = woven(read_program(text), hall, [0] * (steps - 1) + [number] * 5, 100)
                    self.assertEqual(told[2:], (steps, []))
                    self.assertIs(hall.round_on(), False)
                    self.assertNotIn(("small",), hall.log())

    def test_so_many_rows(self):
        for most in (0, 1, 5, 29, 30):
            for hall in halls():
                told = woven(LOOP, hall, [-1] * 30, most)
                self.assertEqual((told[2], told[1]), (most, None))
                self.assertEqual(told[3], [(s, "small") for s in range(1, most + 1)])

    def test_a_fault(self):
        for hall in halls(7, 7):
            told = woven(LOOP, hall, [1], 100)
            self.assertEqual(told, ([("number", x) for x in (1, 2, 3)], "NoRoom", 20, [(1, "begin")]))
        for hall in halls(0, 7):
            told = woven(LOOP, hall, [], 100)
            self.assertEqual(told, ([("number", 1), ("number", 2)], "NoRoom", 15, []))


class RefusedTest(unittest.TestCase):
    def test_numbers_that_are_none(self):
        for work in ([-2], [1001], [0, 1, -2], [10 ** 60], [0] * 1999 + [1001], [0] * 2001, [1] * 2001, [-10 ** 60]):
            for hall in halls():
                before = hall_told(hall)
                self.assertEqual(refusal(woven, SHORT, hall, work, 100), "BadCount")
                self.assertEqual(refusal(woven, SHORT, hall, work, 0), "BadCount")
                self.assertEqual(hall_told(hall), before)

    def test_numbers_at_their_bounds(self):
        for work in ([-1], [0], [1], [1000], [0] * 2000, [1000] * 2000, [-1] * 2000):
            for hall in halls():
                self.assertIsNone(refusal(woven, SHORT, hall, work, 100))

    def test_ideal_rooms(self):
        for young, limit in ((6, 20), (65, 20), (0, 6), (0, 401)):
            self.assertEqual(refusal(ideal_by, SHORT, young, limit, [], 100), "BadCount")


class IdealByTest(unittest.TestCase):
    def test_turns_by_hand(self):
        for young, turns, held in ((0, [], [6, 6]), (20, [(3, "small")], [4, 4]), (20, [(5, "small")], [6, 4]),
                                   (0, [(3, "begin"), (5, "end")], [6, 4]), (0, [(2, "begin"), (4, "end")], [6, 6]),
                                   (0, [(1, "small"), (3, "begin"), (4, "end"), (5, "begin")], [4, 4]), (20, [(3, "begin")], [4, 4])):
            told = ideal_by(SHORT, young, 40, turns, 100)
            self.assertEqual(told, ([("thing", 3)] + [("number", x) for x in held], None, 8), turns)

    def test_so_many_rows(self):
        self.assertEqual(ideal_by(SHORT, 0, 40, [(3, "begin")], 4), ([("thing", 3)], None, 4))
        self.assertEqual(ideal_by(SHORT, 0, 40, [], 0), ([], None, 0))

    def test_a_fault(self):
        self.assertEqual(ideal_by(SHORT, 0, 7, [], 100)[1:], (None, 8))
        self.assertEqual(ideal_by(read_program("say 0\nmake 0 6\nmake 0 0"), 0, 7, [(2, "begin")], 9), ([("none",)], "NoRoom", 3))


class SameTest(unittest.TestCase):
    def assert_same(self, program, hall, ideal, work, most):
        told = woven(program, hall, work, most)
        self.assertEqual(ideal_by(program, ideal[0], ideal[1], told[3], most), told[:3])
        return told

    def test_dealt_programs_and_work(self):
        ends = {}
        for seed in range(24):
            dealer = random.Random(seed)
            program = dealt_program(dealer, dealer.choice((40, 120, 200)))
            for young, limit in ((0, 30), (0, 120), (7, 40), (20, 60), (64, 200)):
                work = dealt_work(dealer, dealer.choice((20, 400, 600)))
                told = self.assert_same(program, Mover(young, limit), (young, limit), work, 500)
                ends[told[1] or ("going" if told[2] == 500 else "stopped")] = True
                told = self.assert_same(program, Marker(young, limit), (young, limit), work, 500)
                if young == 0:
                    self.assert_same(program, OldMover(limit), (0, limit), work, 500)
        self.assertIn("going", ends)
        self.assertIn("NoRoom", ends)

    def test_programs_that_end(self):
        for text in ("make 0 6\ndrop 0\nmake 0 6\nmake 1 0\nsay 1", "make 0 1\nname 0 0\ndrop 0\nread 1 0\nsay 1\nread 1 0\nsay 1",
                     "make 0 0\nnumber 1 5\nword 0 1\ndrop 0\ntake 2\nsay 2\ntake 2\nsay 2\ntake 2\nsay 2\nstop"):
            program = read_program(text)
            for seed in range(30):
                work = [random.Random(f"{seed} {k}").choice((0, -1, 1, 1, 5)) for k in range(12)]
                for young, limit in ((0, 7), (7, 7), (64, 14)):
                    for hall in halls(young, limit):
                        self.assert_same(program, hall, (young, limit), work, 100)

    def test_weak_names_give_back_as_the_turns_tell(self):
        program = read_program("make 0 1\nname 0 0\ndrop 0\nread 1 0\nsay 1\nsay 2\nread 1 0\nsay 1")
        for hall in halls(0):
            self.assertEqual(woven(program, hall, [0, 0, 1, 1, 1], 100)[:1] + (hall.held(),), ([("thing", 1), ("none",), ("thing", 1)], 2))
        for hall in halls(0):
            self.assertEqual(woven(program, hall, [0, 1, 1, 1], 100)[0], [("thing", 1), ("none",), ("thing", 1)])
        for hall in halls(20):
            self.assertEqual(woven(program, hall, [0, 0, -1], 100)[0], [("none",)] * 3)

    def test_different_work_on_different_halls(self):
        # Without read, take, held and word a program says the same whatever the turns.
        for seed in range(6):
            dealer = random.Random(f"plain {seed}")
            program = dealt_program(dealer, 60, plain=True)
            told = set()
            for hall in (OldMover(400), Mover(0, 400), Mover(7, 400), Marker(0, 400), Marker(64, 400)):
                run = woven(program, hall, [1] * 100, 100)
                told.add(repr(run[:3]))
            told.add(repr(ideal_by(program, 0, 400, [(s, ("end", "begin")[s % 2]) for s in range(1, 100)], 100)))
            self.assertEqual(len(told), 1)


class OwnTest(unittest.TestCase):
    def test_what_is_handed_in_stays(self):
        work, turns = [0, 1, -1, 3], [(2, "begin")]
        woven(SHORT, Mover(7, 40), work, 100)
        ideal_by(SHORT, 0, 40, turns, 100)
        self.assertEqual((work, turns), ([0, 1, -1, 3], [(2, "begin")]))

    def test_no_two_lists_are_one(self):
        told = woven(read_program("stop"), Marker(0, 7), [], 9)
        self.assertIsInstance(told, tuple)
        self.assertIsNot(told[0], told[3])
        told[0].append(1)
        self.assertEqual(told[3], [])

    def test_an_ideal_heap_beside(self):
        heap = IdealHeap(0, 40)
        ideal_by(SHORT, 0, 40, [], 100)
        self.assertEqual(heap.made(), 0)


if __name__ == "__main__":
    unittest.main()
