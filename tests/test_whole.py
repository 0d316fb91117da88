"""What is promised over the whole program: woven runs beside the ideal heap, and halls that do not touch each other."""

import random
import unittest

from stillheap.ideal import IdealHeap
from stillheap.judge import judged, standing
from stillheap.marker import Marker
from stillheap.mover import OldMover
from stillheap.moving import Mover
from stillheap.programs import read_program
from stillheap.running import Running, run_all
from stillheap.weaving import ideal_by, woven
from tests.helpers import Mirror, dealt_program, hall_told

HALLS = (
    (lambda young, limit: OldMover(limit), 0, 60), (Mover, 0, 40), (Mover, 7, 40), (Mover, 20, 80), (Mover, 64, 120),
    (Marker, 0, 40), (Marker, 7, 40), (Marker, 20, 80), (Marker, 64, 120),
)
# Says what it reads back from weak names and last words, of a chain that it builds and leaves.
SEEING = read_program("""number 2 0
number 3 9
number 4 1
mark again
make 1 2
store 1 0 0
name 0 1
word 1 2
copy 0 1
drop 1
add 2 4
below 2 3 again
name 1 0
drop 0
mark back
read 5 0
say 5
take 6
say 6
held 7
say 7
read 0 1
thing 0 back
stop""")
PLAIN_FAULT = read_program("""number 2 0
number 3 30
number 4 1
mark again
make 1 2
store 1 0 0
store 1 1 2
copy 0 1
load 5 0 1
say 5
load 0 0 0
make 6 3
add 2 4
below 2 3 again
say 0
load 7 6 3
stop""")


class WovenTest(unittest.TestCase):
    def work(self, mirror, number):
        """The work of 14.1, on the hall, and the turns on the ideal heap."""
        if number == -1:
            mirror.both("small")
        elif number > 0 and mirror.hall.round_on():
            mirror.step(number)
        elif number > 0:
            mirror.both("begin")

    def run_one(self, mirror, program, work):
        mirror.start(program)
        goes_on = True
        for number in work:
            goes_on = goes_on and mirror.row()
            if goes_on:
                self.work(mirror, number)
            self.assertIsNone(mirror.unlike())
            log = mirror.hall.log()
            self.assertEqual(judged(log), ("right", mirror.gone))
            self.assertEqual(standing(log)[2], mirror.hall.book())
        mirror.asked()
        return [mirror.runs[0].told(), mirror.runs[0].fault(), mirror.runs[0].steps()]

    def test_behind_each_row(self):
        for make_hall, young, limit in HALLS:
            for seed in range(3):
                dealer = random.Random(f"{young} {limit} {seed}")
                program = SEEING if seed == 0 else dealt_program(dealer, 90)
                work = [dealer.choice((0, 0, 1, 1, 2, 3, -1, 1000)) for _ in range(130)]
                mirror = Mirror(make_hall(young, limit), IdealHeap(young, limit))
                told = self.run_one(mirror, program, work)
                run = woven(program, make_hall(young, limit), work, 130)
                self.assertEqual(list(run[:3]), told)
                self.assertEqual(list(ideal_by(program, young, limit, run[3], 130)), told)

    def test_what_a_program_may_see_is_by_the_turns_alone(self):
        for seed in range(40):
            dealer = random.Random(seed)
            young = dealer.choice((0, 7, 64))
            work = [dealer.choice((0, 0, 0, 1, 2, 5, -1)) for _ in range(200)]
            halls = (Mover(young, 60), Marker(young, 60))
            for hall in halls:
                run = woven(SEEING, hall, work, 300)
                self.assertEqual(ideal_by(SEEING, young, 60, run[3], 300), run[:3])

    def test_one_program_on_all_halls_with_different_work(self):
        programs = [PLAIN_FAULT] + [dealt_program(random.Random(f"all {seed}"), 70, plain=True) for seed in range(6)]
        turns = [(s, ("end", "begin")[s % 2]) for s in range(1, 120)]
        for program in programs:
            expected = ideal_by(program, 0, 400, turns, 120)
            for make_hall, young, seed in ((lambda young, limit: OldMover(limit), 0, 1), (Mover, 0, 2), (Mover, 7, 3), (Marker, 0, 4),
                                           (Marker, 64, 5), (Marker, 9, 6)):
                dealer = random.Random(seed)
                work = [dealer.choice((1, 2, 0, -1, 1000)) for _ in range(seed * 40)]
                self.assertEqual(woven(program, make_hall(young, 400), work, 120)[:3], expected)
        told = woven(PLAIN_FAULT, Marker(7, 400), [1] * 900, 900)
        self.assertEqual(told[:3], run_all(PLAIN_FAULT, IdealHeap(0, 400), 900))
        self.assertEqual((told[1], len(told[0]), told[0][-1]), ("BadField", 31, ("none",)))


class ApartTest(unittest.TestCase):
    def test_two_halls_and_two_programs_by_turns(self):
        for make_hall, young, limit in HALLS:
            programs = (SEEING, dealt_program(random.Random(limit), 80))
            alone = []
            for program in programs:
                hall = make_hall(young, limit)
                run = Running(program, hall)
                self.rows(((run, hall),), 150)
                alone.append((hall_told(hall), run.told(), run.fault(), run.steps()))
            halls = (make_hall(young, limit), make_hall(young, limit))
            runs = tuple((Running(program, hall), hall) for program, hall in zip(programs, halls))
            self.rows(runs, 150)
            self.assertEqual([(hall_told(hall), run.told(), run.fault(), run.steps()) for run, hall in runs], alone)

    def rows(self, runs, many):
        for at in range(many):
            for run, hall in runs:
                if run.step() and at % 3 == 0:
                    if hall.round_on():
                        hall.step(2)
                    else:
                        hall.begin()

    def test_lists_that_were_told_and_changed(self):
        for make_hall, young, limit in HALLS:
            hall, other = make_hall(young, limit), make_hall(young, limit)
            for h, each in ((h, each) for h in range(4) for each in (hall, other)):
                each.make(h, 2)
                each.name(h, h)
                each.word(h, h)
                if each is hall:
                    for told in (hall.hands(), hall.names(), hall.book(), hall.log()):
                        told.reverse()
                        told.append(None)
                    for a in range(hall.memory().size()):
                        hall.memory().put(a, None)
                if h == 2:
                    each.begin()
            self.assertEqual(hall_told(hall), hall_told(other))

    def test_programs_and_work_handed_in(self):
        rows, work = list(SEEING), [1, 2, -1]
        hall = Marker(7, 60)
        run = Running(rows, hall)
        run.step()
        rows.clear()
        while run.steps() < 900:
            self.assertIs(run.step(), True)
        self.assertEqual(run.told(), run_all(SEEING, IdealHeap(7, 60), 900)[0])
        woven(SEEING, Marker(7, 60), work, 90)
        self.assertEqual(work, [1, 2, -1])
        log = hall.log()
        judged(log)
        self.assertEqual(log, hall.log())


if __name__ == "__main__":
    unittest.main()
