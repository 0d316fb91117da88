"""Pace and room: programs paced by their makes, and how many words that needs."""

from stillheap.errors import BadCount
from stillheap.ideal import IdealHeap
from stillheap.reach import reached, view_of
from stillheap.running import Running
from stillheap.values import MOST_LIMIT, words_of

MOST_PACE = 100
MOST_STEPS = 2000
COSTLY = ("make", "load", "store", "read")


def room_needed(most, pace):
    look_at_bounds(most, 0, MOST_LIMIT)
    look_at_bounds(pace, 1, MOST_PACE)
    return most + 2 * (most // pace + 16)


def most_reached(program, steps):
    look_at_bounds(steps, 1, MOST_STEPS)
    ideal = IdealHeap(0, MOST_LIMIT)
    running = Running(program, ideal)
    most = (0, 0)
    while running.at() is not None and running.steps() < steps:
        ideal.begin()
        ideal.end()
        running.step()
        words = words_reached(ideal)
        if words > most[0]:
            most = (words, running.steps())
    return most


def words_reached(ideal):
    view = view_of(ideal)
    return sum([words_of(len(view[1][t])) for t in reached(view)])


def look_at_bounds(x, least, most):
    if not least <= x <= most:
        raise BadCount(f"{x} is not from {least} to {most}")


class Paced:
    def __init__(self, program, hall, pace):
        look_at_bounds(pace, 1, MOST_PACE)
        self.rows = tuple(program)
        self.hall = hall
        self.pace = pace
        self.running = Running(program, hall)
        self.held_most = 0
        self.rounds_ended = 0
        self.dearest_cost = (0, 0)

    def step(self):
        place = self.running.at()
        if place is None:
            return False
        if not self.hall.round_on():
            self.hall.begin()
            self.note_cost()
        row = self.rows[place]
        self.do_row(row[0])
        if row[0] == "make" and self.running.fault() is None:
            self.do_step(self.pace * words_of(row[2]))
        self.held_most = max(self.held_most, self.hall.held())
        return self.running.at() is not None

    def told(self):
        return self.running.told()

    def fault(self):
        return self.running.fault()

    def most_held(self):
        return self.held_most

    def rounds(self):
        return self.rounds_ended

    def dearest(self):
        return self.dearest_cost

    # Behind another row the hall may still tell the cost of what was done
    # ahead of this run. A make that is refused may have done a small round.
    def do_row(self, word):
        self.running.step()
        if word in COSTLY and self.running.fault() in (None, "NoRoom"):
            self.note_cost()

    def do_step(self, k):
        if self.hall.round_on():
            self.rounds_ended += 1 if self.hall.step(k) else 0
            self.note_cost()

    def note_cost(self):
        cost = self.hall.cost()
        dearest = self.dearest_cost
        self.dearest_cost = (max(dearest[0], cost[0]), max(dearest[1], cost[1]))
