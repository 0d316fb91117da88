"""Dealt deeds and turns on halls with a collector, beside the ideal heap that is told the turns alone."""

import random
import unittest

from stillheap.ideal import IdealHeap
from stillheap.judge import judged, standing
from stillheap.marker import Marker
from stillheap.mover import OldMover
from stillheap.moving import Mover
from stillheap.programs import read_program
from tests.helpers import Mirror, hall_told, words

STEPS = (1, 1, 1, 2, 3, 5, 1000)
HALLS = tuple((lambda young, limit: OldMover(limit), 0, limit) for limit in (7, 30, 60, 400)) + tuple(
    (Mover, young, limit) for young, limit in ((0, 40), (7, 7), (7, 40), (9, 30), (20, 60), (64, 100), (64, 400))) + tuple(
    (Marker, young, limit) for young, limit in (
        (0, 7), (0, 40), (0, 400), (7, 7), (7, 40), (9, 30), (20, 60), (64, 64), (64, 100), (64, 400)))


class Dealing(Mirror):
    """Deals one deed or turn after another, and looks at all that is promised behind each."""

    def __init__(self, case, make_hall, young, limit, seed):
        Mirror.__init__(self, make_hall(young, limit), IdealHeap(young, limit))
        self.case, self.young, self.limit = case, young, limit
        self.dealer = random.Random(f"{young} {limit} {seed}")
        self.turning = self.dealer.choice((1, 2, 5))
        self.expected, self.boxes = [], {}

    def any_hand(self):
        return self.dealer.choice([-1, 8] + list(range(8)) * 6)

    def thing_hand(self):
        things = [h for h in range(8) if self.ideal.kind(h) == "thing"]
        return self.dealer.choice(things + [self.any_hand()])

    def any_field(self, g):
        fields = self.ideal.fields(g) if 0 <= g < 8 and self.ideal.kind(g) == "thing" else 1
        return self.dealer.choice(list(range(fields)) * 6 + [-1, fields])

    def dealt_deed(self):
        dealer, h, g = self.dealer, self.any_hand(), self.thing_hand()
        w = dealer.choice([-1, 8] + list(range(8)) * 3)
        k = self.any_field(g)
        return dealer.choice(
            [("make", h, dealer.choice([-1, 7] + [0, 1, 1, 2, 2, 3, 6] * 4))] * 5
            + [("load", h, g, k)] * 4 + [("store", g, k, h)] * 2 + [("store", g, k, self.thing_hand())] * 6
            + [("copy", h, self.any_hand()), ("number", h, dealer.choice([0, 1, 10 ** 60 + 1]))] + [("drop", h)] * 4
            + [("name", w, g)] * 2 + [("read", h, w)] * 2
            + [("word", g, dealer.choice([0, 5, -10 ** 60, -10 ** 60 - 1]))] * 2 + [("take",)])

    def cost_due(self, deed, before, small_done):
        """The greatest cost that 13.3 lets a deed or turn have."""
        remembered = len(before.get("remembered", ()))
        small = (remembered + self.young, self.young) if self.young else (0, 0)
        if "colours" in before:
            small = (before["held"] - len(before["book"]), 0)
        bounds = {"load": (0, 7), "store": (0, 7), "read": (0, 7), "make": small if small_done else (0, 0),
                  "small": small, "begin": (small[0], small[1] + 56), "step": None}
        return bounds.get(deed, (0, 0))

    def check(self, bound):
        cost = self.hall.cost()
        self.case.assertLessEqual(cost[0], bound[0])
        self.case.assertLessEqual(cost[1], bound[1])
        self.case.assertIsNone(self.unlike())
        self.read_log()
        if hasattr(self.hall, "half"):
            self.check_hands()
        else:
            self.case.assertEqual(cost[1], 0)
            self.check_boxes()
        if self.dealer.randrange(8) == 0:
            self.asked()

    def check_hands(self):
        """No hand holds an address in the half of before."""
        limit, half = self.limit, self.hall.half()
        for word in self.hall.hands():
            if word is not None and word[0] == "at":
                self.case.assertTrue(half <= word[1] < half + limit or word[1] >= 2 * limit, word)

    def check_boxes(self):
        """Things stay in their boxes, a made one is in the least that is free, and all other words are None."""
        book = dict(self.hall.book())
        memory = self.hall.memory()
        self.case.assertEqual(memory.size(), 7 * self.limit)
        expected = [None] * memory.size()
        for t, a in book.items():
            self.case.assertEqual(self.boxes.setdefault(t, a), a)
            for i in range(len(self.ideal.fields_of(t)) + 1):
                expected[a + i] = memory.at(a + i)
        self.case.assertEqual(words(memory), expected)
        last = self.hall.log()[-1]
        if last[0] == "make":
            others = [a for t, a in book.items() if t != last[3]]
            self.case.assertEqual(last[4], min(a for a in range(0, 7 * self.limit, 7) if a not in others))

    def deed(self):
        deed = self.dealt_deed()
        before = hall_told(self.hall)
        said, name = self.both(*deed)
        log = self.hall.log()[len(before["log"]):]
        if name is not None:
            if ("small",) not in log:
                self.case.assertEqual(hall_told(self.hall), before)
            self.case.assertIn(name, ("BadHand", "BadName", "BadField", "BadCount", "NoRoom", "TooManyWords"))
            bound = before["cost"] if ("small",) not in log else self.cost_due("make", before, True)
        else:
            bound = self.cost_due(deed[0], before, ("small",) in log)
            if deed[0] != "take":
                self.expected.append(deed)
        self.check(bound)

    def turn(self):
        before = hall_told(self.hall)
        if self.dealer.randrange(5) == 0:
            self.both("small")
            self.check(self.cost_due("small", before, True))
        elif self.hall.round_on():
            self.case.assertEqual(self.both("begin")[1], "RoundOn")
            k = self.dealer.choice(STEPS)
            ended = self.step(k)
            self.case.assertIs(ended, not self.hall.round_on())
            self.case.assertIs(ended, k >= before["left"] and self.hall.left() == 0)
            self.check((k, 7 * k))
        else:
            self.both("begin")
            self.check(self.cost_due("begin", before, True))

    def run(self, many):
        for _ in range(many):
            if self.dealer.randrange(10) < self.turning:
                self.turn()
            else:
                self.deed()
        while self.both("take")[0] is not None:
            pass
        self.case.assertEqual(judged(self.hall.log()), ("right", self.gone))
        self.case.assertEqual(standing(self.hall.log()), self.reader.standing())
        programs = [row for row in self.hall.log() if row[0] not in (
            "room", "small", "begin", "shade", "look", "move", "end")]
        self.case.assertEqual([row[:3] if row[0] == "make" else row for row in programs], self.expected)


class MirroredTest(unittest.TestCase):
    def test_answers_pictures_and_logs_behind_every_deed(self):
        for make_hall, young, limit in HALLS:
            for seed in range(4):
                Dealing(self, make_hall, young, limit, seed).run(300)


# Builds a row of twelve things with names and last words about, then goes back along it.
PROGRAM = """make 0 2
number 2 0
number 3 12
number 4 1
mark again
make 1 2
store 1 0 0
store 1 1 2
copy 0 1
drop 1
make 5 3
name 0 5
name 1 0
word 5 2
add 2 4
below 2 3 again
drop 5
mark back
load 6 0 1
say 6
load 0 0 0
read 7 1
say 7
drop 7
take 5
say 5
thing 0 back
held 5"""


class ProgramTest(unittest.TestCase):
    def test_a_program_says_the_same_whatever_the_steps(self):
        for make_hall, young, limit in HALLS:
            for seed in range(3):
                dealer = random.Random(seed)
                mirror = Mirror(make_hall(young, limit), IdealHeap(young, limit))
                mirror.start(read_program(PROGRAM))
                while mirror.row():
                    if dealer.randrange(3) == 0 and mirror.hall.round_on():
                        mirror.step(dealer.choice(STEPS))
                    elif dealer.randrange(8) == 0:
                        mirror.both("small" if mirror.hall.round_on() else "begin")
                self.assertIsNone(mirror.unlike())
                mirror.read_log()


if __name__ == "__main__":
    unittest.main()
