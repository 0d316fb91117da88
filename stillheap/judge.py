"""The judge of logs: by right rows alone just those things go that nothing led to, whoever wrote the log."""

from stillheap.deeds import is_log_row
from stillheap.errors import BadLog, HeapError
from stillheap.heaps import Heap
from stillheap.plots import Plots
from stillheap.reach import thing_in
from stillheap.roundcolours import RoundColours
from stillheap.values import look_at_hand, words_of


def judged(log):
    run = gone_through(log)
    if run[2] is not None:
        return ("wrong", run[1], run[2])
    return ("right", run[0].gone_lists)


def standing(log):
    run = gone_through(log)
    if run[2] is not None:
        at = run[1]
        raise BadLog(f"the row at {at} is not right", at)
    judge = run[0]
    return (judge.colours_now.all_white(), judge.colours_now.fields_waiting(), judge.plots.all_plots())


# The judge behind the right rows, and the place of the first one that is not
# right and why, both None where all are.
def gone_through(log):
    if len(log) == 0 or not is_log_row(log[0]) or log[0][0] != "room":
        return (None, 0, "form")
    judge = LogJudge(log[0][1], log[0][2])
    for at, row in enumerate(log[1:], start=1):
        why = judge.why_wrong(row)
        if why is not None:
            return (judge, at, why)
    return (judge, None, None)


# The first row that is not right ends a log: so one that is refused when it is
# half done is not taken back.
class LogJudge:
    def __init__(self, words, makes_young):
        self.heap = Heap(makes_young)
        self.plots = Plots(words)
        self.colours_now = RoundColours()
        self.gone_lists = []

    def why_wrong(self, row):
        if not is_log_row(row) or row[0] not in ROWS:
            return "form"
        if not self.is_in_time(row[0]):
            return "round"
        try:
            return ROWS[row[0]](self, row)
        except HeapError:
            return "deed"

    def is_in_time(self, word):
        if word == "begin":
            return not self.colours_now.is_on() and len(self.heap.young_things) == 0
        return word not in ("shade", "look", "end") or self.colours_now.is_on()

    # What a field of the thing in a hand tells, if it may still hide a white
    # thing from the collector.
    def thing_waiting(self, g, k):
        t = self.heap.in_hands.thing_due(g)
        value = self.heap.field_value(t, k)
        return thing_in(value) if self.colours_now.waits(t, k) else None

    def note_gone(self, gone):
        for t in gone:
            self.plots.leave_plot(t)
        self.gone_lists.append(sorted(gone))


# Each of these does a row, and tells why it is not right, None where it is;
# what a heap refuses comes as its error.
def do_make(judge, row):
    look_at_hand(row[1])
    size = words_of(row[2])
    if row[3] != judge.heap.next_thing:
        return "number"
    if not judge.plots.are_free(row[4], size):
        return "room"
    judge.heap.add_thing(row[1], row[2])
    judge.plots.take_plot(row[3], row[4], size)
    return None


def do_load(judge, row):
    told = judge.thing_waiting(row[2], row[3])
    judge.heap.load(row[1], row[2], row[3])
    judge.colours_now.let_by(told)


def do_store(judge, row):
    told = judge.thing_waiting(row[1], row[2])
    judge.heap.store(row[1], row[2], row[3])
    judge.colours_now.owe(told)


def do_copy(judge, row):
    judge.heap.copy(row[1], row[2])


def do_drop(judge, row):
    judge.heap.drop(row[1])


def do_number(judge, row):
    judge.heap.number(row[1], row[2])


def do_name(judge, row):
    judge.heap.name(row[1], row[2])


def do_read(judge, row):
    judge.colours_now.owe(judge.heap.read_thing(row[1], row[2]))


def do_word(judge, row):
    judge.heap.word(row[1], row[2])


def do_small(judge, row):
    judge.note_gone(judge.heap.small_round())


def do_begin(judge, row):
    judge.colours_now.begin(judge.heap.counts_held())
    for value in judge.heap.in_hands.all_words():
        judge.colours_now.owe(thing_in(value))


def do_shade(judge, row):
    judge.heap.look_at_held(row[1])
    if not judge.colours_now.may_shade(row[1]):
        return "colour"
    judge.colours_now.shade(row[1])
    return None


def do_look(judge, row):
    told = thing_in(judge.heap.field_value(row[1], row[2]))
    if not judge.colours_now.may_look(row[1], row[2]):
        return "colour"
    judge.colours_now.look(row[1], row[2])
    judge.colours_now.owe(told)
    return None


# The words from which a thing is moved are not free ahead of its move.
def do_move(judge, row):
    judge.heap.look_at_held(row[1])
    size = judge.heap.words_among([row[1]])
    if not judge.plots.are_free(row[2], size):
        return "room"
    judge.plots.leave_plot(row[1])
    judge.plots.take_plot(row[1], row[2], size)
    return None


def do_end(judge, row):
    if not judge.colours_now.may_end():
        return "colour"
    gone = judge.colours_now.end()
    judge.heap.let_go(gone)
    judge.note_gone(gone)
    return None


ROWS = {
    "make": do_make,
    "load": do_load,
    "store": do_store,
    "copy": do_copy,
    "drop": do_drop,
    "number": do_number,
    "name": do_name,
    "read": do_read,
    "word": do_word,
    "small": do_small,
    "begin": do_begin,
    "shade": do_shade,
    "look": do_look,
    "move": do_move,
    "end": do_end,
}
