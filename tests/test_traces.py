import random
import unittest

from stillheap.ideal import IdealHeap
from stillheap.marker import Marker
from stillheap.moving import Mover
from stillheap.programs import read_program
from stillheap.running import Running
from stillheap.traces import traced
from stillheap.weaving import woven
from tests.helpers import dealt_program, hall_told, refusal

PROGRAM = read_program("make 0 3\nmake 1 1\ndrop 1\nsay 0\ngo b\nsay 1\nmark b\nsay 7\nsay 2\nstop")


def halls(young=7, limit=40):
    return (Mover(young, limit), Marker(young, limit))


class TracedTest(unittest.TestCase):
    def test_without_work(self):
        for hall in halls():
            self.assertEqual(traced(PROGRAM, hall, [], 100), [
                (0, None, 4), (1, None, 6), (2, None, 6), (3, ("thing", 3), 6), (4, None, 6), (6, None, 6), (7, ("none",), 6),
                (8, ("none",), 6), (9, None, 6)])

    def test_held_behind_the_rows_work(self):
        for hall in halls():
            rows = traced(PROGRAM, hall, [0, 0, -1], 100)
            self.assertEqual([row[2] for row in rows], [4, 6, 4, 4, 4, 4, 4, 4, 4])
        for hall in halls(0):
            rows = traced(PROGRAM, hall, [0, 0, 1, 2, 1], 100)
            self.assertEqual([row[2] for row in rows], [4, 6, 6, 6, 4, 4, 4, 4, 4])

    def test_a_fault_has_its_row(self):
        program = read_program("number 0 5\nsay 0\nsay 9\nsay 0")
        for hall in halls():
            self.assertEqual(traced(program, hall, [0, 0, 1], 100), [(0, None, 0), (1, ("number", 5), 0), (2, None, 0)])
            self.assertIs(hall.round_on(), False)
        for hall in halls(7, 7):
            self.assertEqual(traced(read_program("make 0 5\nmake 1 1"), hall, [], 9), [(0, None, 6), (1, None, 6)])

    def test_so_many_rows(self):
        program = read_program("mark a\nsay 0\ngo a")
        for most in (0, 1, 2, 7):
            for hall in halls():
                rows = traced(program, hall, [1] * 9, most)
                self.assertEqual(rows, [(0, None, 0), (1, ("none",), 0), (2, None, 0)][:most] if most < 4 else (
                    [(0, None, 0), (1, ("none",), 0), (2, None, 0)] * 3)[:most])

    def test_the_last_rows_work_is_done(self):
        for hall in halls():
            self.assertEqual(traced(PROGRAM, hall, [0, 0, -1], 3)[-1], (2, None, 4))

    def test_work_that_is_refused(self):
        for work in ([-2], [1001], [0] * 2001, [0] * 1999 + [1001]):
            for hall in halls():
                before = hall_told(hall)
                self.assertEqual(refusal(traced, PROGRAM, hall, work, 100), "BadCount")
                self.assertEqual(refusal(traced, PROGRAM, hall, work, 0), "BadCount")
                self.assertEqual(hall_told(hall), before)
        for work in ([-1, 1000], [0] * 2000):
            self.assertIsNone(refusal(traced, PROGRAM, Marker(7, 40), work, 100))

    def test_beside_woven_and_the_ideal_heap(self):
        for seed in range(8):
            dealer = random.Random(seed)
            program = dealt_program(dealer, 80)
            work = [dealer.choice((0, 0, 1, 2, -1, 1000)) for _ in range(200)]
            for young, limit in ((0, 60), (20, 60)):
                for hall, other in zip(halls(young, limit), halls(young, limit)):
                    rows = traced(program, hall, work, 250)
                    told = woven(program, other, work, 250)
                    self.assertEqual(([row[1] for row in rows if row[1] is not None], len(rows)), (told[0], told[2]))
                    self.assertEqual(hall_told(hall), hall_told(other))
                    self.assertEqual(rows, self.ideal_rows(program, young, limit, told[3], 250))

    def ideal_rows(self, program, young, limit, turns, most):
        heap, rows = IdealHeap(young, limit), []
        run = Running(program, heap)
        while run.at() is not None and len(rows) < most:
            place, said = run.at(), len(run.told())
            run.step()
            for s, word in turns:
                if s == run.steps():
                    getattr(heap, word)()
            rows.append((place, (run.told()[said:] + [None])[0], heap.held()))
        return rows

    def test_handed_in_and_told(self):
        work = [0, 1, -1]
        first = traced(PROGRAM, Mover(7, 40), work, 100)
        first.clear()
        self.assertEqual((len(traced(PROGRAM, Mover(7, 40), work, 100)), work), (9, [0, 1, -1]))


if __name__ == "__main__":
    unittest.main()
