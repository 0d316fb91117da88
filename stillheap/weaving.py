"""Woven runs: a program's rows on a hall, with a collector's work behind each."""

from stillheap.errors import BadCount
from stillheap.halls import MOST_STEP
from stillheap.ideal import IdealHeap
from stillheap.running import Running

MOST_WORK = 2000


def woven(program, hall, work, most):
    weaving = Weaving(program, hall, work)
    while weaving.steps() < most and weaving.step():
        pass
    return (weaving.told(), weaving.fault(), weaving.steps(), weaving.turns())


def ideal_by(program, young, limit, turns, most):
    ideal = IdealHeap(young, limit)
    running = Running(program, ideal)
    words = turns_by_rows(turns)
    while running.steps() < most and running.step():
        for word in words.get(running.steps(), []):
            do_turn(ideal, word)
    return (running.told(), running.fault(), running.steps())


def turns_by_rows(turns):
    words = {}
    for turn in turns:
        words.setdefault(turn[0], []).append(turn[1])
    return words


def do_turn(ideal, word):
    if word == "small":
        ideal.small()
    elif word == "begin":
        ideal.begin()
    else:
        ideal.end()


def look_at_work(work):
    if len(work) > MOST_WORK:
        raise BadCount(f"work has at most {MOST_WORK} numbers")
    for number in work:
        if not -1 <= number <= MOST_STEP:
            raise BadCount(f"{number} is no work")


class Weaving:
    def __init__(self, program, hall, work):
        look_at_work(work)
        self.hall = hall
        self.running = Running(program, hall)
        self.numbers = list(work)
        self.turns_done = []

    # Does one row and its work, as Running does one row.
    def step(self):
        if not self.running.step():
            return False
        done = self.running.steps()
        if done <= len(self.numbers):
            word = self.work_done(self.numbers[done - 1])
            if word is not None:
                self.turns_done.append((done, word))
        return True

    def at(self):
        return self.running.at()

    def told(self):
        return self.running.told()

    def fault(self):
        return self.running.fault()

    def steps(self):
        return self.running.steps()

    def turns(self):
        return list(self.turns_done)

    # Does the work of one number, and tells the turn that it is, if any.
    def work_done(self, number):
        if number == 0:
            return None
        if number == -1:
            self.hall.small()
            return "small"
        if self.hall.round_on():
            return "end" if self.hall.step(number) else None
        self.hall.begin()
        return "begin"
