import random
import unittest

from stillheap.errors import HeapError
from stillheap.ideal import IdealHeap
from stillheap.marker import Marker
from stillheap.mover import OldMover
from stillheap.moving import Mover
from stillheap.pace import Paced, most_reached, room_needed
from stillheap.programs import read_program
from stillheap.running import Running, run_all
from tests.helpers import dealt_program, hall_told, led_by, refusal, thing_numbers

# Builds a chain of seven words a thing for ever.
GROWING = "mark a\nmake 1 6\nstore 1 0 0\ncopy 0 1\ngo a"
# Makes seven words each time, of which nothing stays.
LEAVING = "mark a\nmake 0 6\ngo a"
# A chain of four things, built anew again and again.
CHAINS = """mark again
drop 0
number 2 0
number 3 4
number 4 1
mark more
make 1 2
store 1 0 0
store 1 1 2
copy 0 1
add 2 4
below 2 3 more
load 5 0 1
say 5
go again"""


def words_reached(heap):
    """By whole passes."""
    things = led_by(thing_numbers(heap.hands()), lambda t: thing_numbers(heap.fields_of(t)))
    return sum(len(heap.fields_of(t)) + 1 for t in things)


def halls(limit):
    return [OldMover(limit)] + [hall(young, limit) for hall in (Mover, Marker) for young in (0, 7, 64)]


class RoomNeededTest(unittest.TestCase):
    def test_numbers(self):
        for most, pace, room in ((0, 1, 32), (0, 100, 32), (1, 1, 35), (10, 3, 48), (99, 100, 131), (100, 100, 134),
                                 (400, 1, 1232), (400, 100, 440), (400, 99, 440), (30, 7, 70)):
            self.assertEqual(room_needed(most, pace), room)

    def test_refused(self):
        for most, pace in ((-1, 1), (401, 1), (0, 0), (0, 101), (0, -1), (10 ** 60, 1), (1, 10 ** 60), (-1, 0)):
            self.assertEqual(refusal(room_needed, most, pace), "BadCount", (most, pace))


class MostReachedTest(unittest.TestCase):
    def test_programs_by_hand(self):
        for text, told in (
            ("stop", (0, 0)), ("number 0 5\nsay 0", (0, 0)), ("make 0 0", (1, 1)), ("make 0 2", (3, 1)),
            ("make 0 2\nmake 1 1\ndrop 0\nmake 0 2", (5, 2)), ("make 0 2\nmake 0 6\nmake 0 6", (7, 2)),
            ("make 0 1\nmake 1 2\nstore 0 0 1\ndrop 1\ndrop 0\nmake 0 3", (5, 2)),
            ("make 0 1\ncopy 1 0\nstore 0 0 1", (2, 1)), ("make 0 3\ndrop 9\nmake 1 3", (4, 1)), ("drop 9", (0, 0)),
            ("make 0 3\nstop\nmake 1 3", (4, 1)), ("make 0 2\nname 0 0\ndrop 0\nread 0 0\nmake 1 0", (3, 1)),
        ):
            self.assertEqual(most_reached(read_program(text), 2000), told, text)

    def test_more_words_made_than_there_is_room_for(self):
        self.assertEqual(most_reached(read_program(LEAVING), 2000), (7, 2))
        self.assertEqual(most_reached(read_program(CHAINS), 2000), (12, 28))

    def test_more_words_reached_than_there_is_room_for(self):
        self.assertEqual(most_reached(read_program(GROWING), 2000), (399, 282))
        self.assertEqual(most_reached(read_program(GROWING), 281), (392, 277))

    def test_so_many_rows(self):
        program = read_program(GROWING)
        self.assertEqual([most_reached(program, steps) for steps in (1, 2, 6, 7)], [(0, 0), (7, 2), (7, 2), (14, 7)])
        for steps in (0, -1, 2001, 10 ** 60):
            self.assertEqual(refusal(most_reached, program, steps), "BadCount")

    def test_two_thousand_rows(self):
        rows = ["mark a", "number 0 0", "number 1 1", "number 2 664", "mark b", "add 0 1", "below 0 2 b", "make 3 4"]
        self.assertEqual(most_reached(read_program("\n".join(rows)), 2000), (5, 1997))
        rows[3] = "number 2 665"
        self.assertEqual(most_reached(read_program("\n".join(rows)), 2000), (5, 2000))
        rows[3] = "number 2 666"
        self.assertEqual(most_reached(read_program("\n".join(rows)), 2000), (0, 0))

    def test_dealt_programs(self):
        for seed in range(10):
            program = dealt_program(random.Random(seed), 120)
            heap = IdealHeap(0, 400)
            run, most = Running(program, heap), (0, 0)
            while run.at() is not None and run.steps() < 300:
                heap.begin()
                heap.end()
                run.step()
                if words_reached(heap) > most[0]:
                    most = (words_reached(heap), run.steps())
            self.assertEqual(most_reached(program, 300), most)


class TurnsTest(unittest.TestCase):
    def test_by_hand(self):
        for hall in (OldMover(40), Mover(0, 40), Marker(0, 40)):
            paced = Paced(read_program("make 0 2\nnumber 1 5\nstore 0 0 1\nmake 1 1\nsay 0"), hall, 1)
            self.assertIs(hall.round_on(), False)
            self.assertEqual((paced.most_held(), paced.rounds(), paced.dearest(), paced.told()), (0, 0, (0, 0), []))
            self.assertIs(paced.step(), True)
            self.assertEqual([row[0] for row in hall.log()[1:]], ["small", "begin", "make", "end"])
            self.assertEqual((paced.most_held(), paced.rounds()), (3, 1))
            self.assertIs(paced.step(), True)
            self.assertIs(hall.round_on(), True)
            rows = [row[:1] if row[0] == "move" else row for row in hall.log()[5:]]
            self.assertEqual([row for row in rows if row != ("move",)], [("small",), ("begin",), ("shade", 0), ("number", 1, 5)])
            self.assertEqual((hall.left(), paced.rounds()), (2, 1))
            self.assertIs(paced.step(), True)
            self.assertEqual((hall.log()[-1], hall.left(), hall.round_on()), (("store", 0, 0, 1), 2, True))
            self.assertIs(paced.step(), True)
            self.assertEqual((hall.log()[-4][0], hall.log()[-3:]), ("make", [("look", 0, 0), ("look", 0, 1), ("end",)]))
            self.assertEqual((paced.rounds(), paced.most_held()), (2, 5))
            self.assertIs(paced.step(), False)
            self.assertEqual((paced.told(), paced.fault(), hall.round_on()), ([("thing", 2)], None, True))

    def test_a_step_of_pace_by_words(self):
        for pace, looks in ((1, 3), (2, 6), (4, 12), (5, 15), (6, 16)):
            hall = Marker(0, 100)
            program = read_program("make 0 6\nmake 1 6\nmake 2 4\ndrop 7\nmake 3 2")
            paced = Paced(program, hall, pace)
            for _ in range(3):
                paced.step()
                while hall.round_on():
                    hall.step(1000)
            paced.step()
            self.assertEqual(hall.left(), 16)
            paced.step()
            self.assertEqual(hall.cost(), (looks, 0))
            self.assertEqual(hall.left(), 16 - looks)

    def test_the_greatest_step(self):
        hall = Marker(0, 400)
        paced = Paced(read_program(GROWING), hall, 100)
        while paced.step():
            pass
        self.assertEqual(paced.fault(), "NoRoom")

    def test_a_last_row_that_makes_has_its_step(self):
        hall = Marker(0, 40)
        paced = Paced(read_program("make 0 0"), hall, 1)
        self.assertIs(paced.step(), False)
        self.assertEqual((hall.log()[-1], paced.rounds(), paced.most_held()), (("end",), 1, 1))

    def test_a_round_that_is_on_goes_on(self):
        hall = Marker(0, 40)
        hall.make(0, 6)
        hall.begin()
        before = hall.log()
        paced = Paced(read_program("say 0\nmake 1 1"), hall, 1)
        paced.step()
        self.assertEqual((hall.log(), paced.most_held(), paced.dearest()), (before, 7, (0, 0)))
        paced.step()
        self.assertEqual([row[0] for row in hall.log()[len(before):]], ["make", "look", "look"])
        self.assertEqual((paced.most_held(), paced.dearest(), paced.rounds()), (9, (2, 0), 0))

    def test_a_row_that_is_refused(self):
        for text, fault in (("load 0 1 0", "BadHand"), ("make 0 7", "BadCount"), ("make 0 6\nmake 1 0", "NoRoom"), ("read 0 8", "BadName")):
            for hall in (OldMover(7), Mover(0, 7), Mover(64, 7), Marker(0, 7), Marker(64, 7)):
                paced = Paced(read_program(text + "\nsay 0"), hall, 3)
                for _ in range(text.count("\n")):
                    self.assertIs(paced.step(), True)
                before = hall.log()
                self.assertIs(paced.step(), False)
                self.assertEqual((paced.fault(), paced.told()), (fault, []))
                self.assertEqual([row for row in hall.log()[len(before):] if row[0] in ("make", "look", "end")], [])

    def test_the_dearest_cost_may_be_a_rows_own(self):
        hall = OldMover(60)
        hall.make(0, 1)
        hall.make(1, 6)
        hall.store(0, 0, 1)
        hall.drop(1)
        hall.begin()
        paced = Paced(read_program("load 2 0 0\nsay 2"), hall, 1)
        paced.step()
        self.assertEqual((hall.cost(), paced.dearest()), ((0, 7), (0, 7)))

    def full(self, limit):
        """A round is on with eighteen fields left; the young room is full, with a thing of six fields in hand 3."""
        hall = Marker(7, limit)
        for h in range(3):
            hall.make(h, 6)
        hall.begin()
        hall.make(3, 6)
        self.assertEqual(hall.left(), 18)
        return hall

    def test_the_small_round_of_a_make_costs(self):
        hall = self.full(100)
        paced = Paced(read_program("make 4 0"), hall, 2)
        paced.step()
        self.assertEqual((paced.fault(), hall.cost(), paced.dearest()), (None, (2, 0), (6, 0)))

    def test_the_small_round_of_a_make_that_is_refused_costs(self):
        hall = self.full(28)
        paced = Paced(read_program("make 4 0"), hall, 1)
        paced.step()
        self.assertEqual((paced.fault(), hall.cost(), paced.dearest()), ("NoRoom", (6, 0), (6, 0)))

    def test_what_was_done_ahead_of_the_run_costs_nothing_in_it(self):
        hall = OldMover(60)
        hall.make(0, 6)
        hall.begin()
        paced = Paced(read_program("say 0\nload 1 1 0"), hall, 1)
        self.assertIs(paced.step(), True)
        self.assertIs(paced.step(), False)
        self.assertEqual((hall.cost(), paced.dearest()), ((0, 7), (0, 0)))

    def test_a_step_behind_the_stop(self):
        for text in ("stop", "make 0 2", "drop 9"):
            hall = Mover(7, 40)
            paced = Paced(read_program(text), hall, 1)
            self.assertIs(paced.step(), False)
            before = hall_told(hall), paced.most_held(), paced.rounds(), paced.dearest(), paced.fault()
            self.assertIs(paced.step(), False)
            self.assertEqual((hall_told(hall), paced.most_held(), paced.rounds(), paced.dearest(), paced.fault()), before)

    def test_paces(self):
        program = read_program("stop")
        for pace in (1, 100):
            Paced(program, Marker(0, 7), pace)
        for pace in (0, 101, -1, 10 ** 60):
            hall = Marker(0, 7)
            self.assertEqual(refusal(Paced, program, hall, pace), "BadCount")
            self.assertEqual(hall.log(), Marker(0, 7).log())

    def test_what_is_told_is_the_askers_own(self):
        paced = Paced(read_program("say 0\nsay 0"), Marker(0, 7), 1)
        paced.step()
        paced.told().append(("none",))
        self.assertEqual(paced.told(), [("none",)])


class ByHand:
    """A paced run told over by 13.1 on a hall of its own."""

    def __init__(self, program, hall, pace):
        self.program, self.hall, self.pace = program, hall, pace
        self.run = Running(program, hall)
        self.held, self.ended, self.costs = [0], 0, [(0, 0)]

    def step(self):
        if self.run.at() is None:
            return False
        row = self.program[self.run.at()]
        if not self.hall.round_on():
            self.hall.begin()
            self.costs.append(self.hall.cost())
        goes_on = self.run.step()
        self.costs.append(self.hall.cost())
        if row[0] == "make" and self.run.fault() is None:
            self.ended += self.hall.step(self.pace * (row[2] + 1))
            self.costs.append(self.hall.cost())
        self.held.append(self.hall.held())
        return goes_on

    def told(self):
        dearest = (max(cost[0] for cost in self.costs), max(cost[1] for cost in self.costs))
        return (self.run.told(), self.run.fault(), max(self.held), self.ended, dearest)


class PacedTest(unittest.TestCase):
    def programs(self):
        yield read_program(CHAINS)
        yield read_program(GROWING)
        for seed in range(4):
            yield dealt_program(random.Random(seed), 100)

    def test_behind_each_row(self):
        for program in self.programs():
            for pace in (1, 3, 100):
                for hall, twin in zip(halls(60), halls(60)):
                    paced, by_hand = Paced(program, hall, pace), ByHand(program, twin, pace)
                    for _ in range(150):
                        self.assertIs(paced.step(), by_hand.step())
                        told = (paced.told(), paced.fault(), paced.most_held(), paced.rounds(), paced.dearest())
                        self.assertEqual(told, by_hand.told())
                    self.assertEqual(hall_told(hall), hall_told(twin))

    def test_the_dearest_is_within_bounds(self):
        for hall in halls(60):
            paced = Paced(read_program(CHAINS), hall, 2)
            for _ in range(300):
                paced.step()
            self.assertGreater(paced.dearest()[0], 0)
            self.assertLessEqual(paced.dearest()[1], 56 + 64)
            if isinstance(hall, Marker):
                self.assertEqual(paced.dearest()[1], 0)


class RoomTest(unittest.TestCase):
    def run_one(self, program, pace):
        """Paced with just as many words as are needed: no make is refused, and rounds see no more than 13.2 tells."""
        most = most_reached(program, 700)[0]
        limit = room_needed(most, pace)
        said = run_all(program, self.endless(program), 700)
        for hall in halls(limit):
            paced, made = Paced(program, hall, pace), 0
            for _ in range(700):
                rounds, rows = paced.rounds(), len(hall.log())
                on = hall.round_on()
                self.assertTrue(paced.step())
                news = hall.log()[rows:]
                made = (made if on else 0) + sum(row[2] + 1 for row in news if row[0] == "make")
                self.assertLessEqual(made, most // pace + (7 if paced.rounds() > rounds else 0))
                self.assertLessEqual(hall.held(), limit)
            self.assertLessEqual(paced.most_held(), limit)
            self.assertEqual((paced.told(), paced.fault()), (said[0], None))

    def endless(self, program):
        """An ideal heap that ends a round whenever a make would be refused, so that it refuses none."""
        heap = IdealHeap(0, 400)
        make = heap.make

        def make_with_room(h, n):
            try:
                make(h, n)
            except HeapError:
                heap.begin()
                heap.end()
                make(h, n)
        heap.make = make_with_room
        return heap

    def test_programs_in_loops(self):
        for text in (LEAVING, CHAINS, "mark a\nmake 0 0\ngo a", "mark a\ndrop 0\ngo a"):
            for pace in (1, 2, 5, 100):
                self.run_one(read_program(text), pace)

    def test_dealt_programs(self):
        for seed in range(6):
            program = dealt_program(random.Random(f"plain {seed}"), 150, plain=True)
            for pace in (1, 4, 30):
                self.run_one(program, pace)

    def test_with_less_room_a_make_is_refused(self):
        program = read_program(CHAINS)
        faults = []
        for hall in (OldMover(12), Mover(7, 12), Marker(0, 12)):
            paced = Paced(program, hall, 1)
            for _ in range(300):
                paced.step()
            faults.append(paced.fault())
        self.assertEqual(faults, ["NoRoom"] * 3)


if __name__ == "__main__":
    unittest.main()
