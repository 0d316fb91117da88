"""Programs run row by row on a hall."""

from stillheap.errors import HeapError


def do_make(hall, row):
    hall.make(row[1], row[2])


def do_load(hall, row):
    hall.load(row[1], row[2], row[3])


def do_store(hall, row):
    hall.store(row[1], row[2], row[3])


def do_copy(hall, row):
    hall.copy(row[1], row[2])


def do_drop(hall, row):
    hall.drop(row[1])


def do_number(hall, row):
    hall.number(row[1], row[2])


def do_name(hall, row):
    hall.name(row[1], row[2])


def do_read(hall, row):
    hall.read(row[1], row[2])


def do_word(hall, row):
    hall.word(row[1], hall.value(row[2]))


# The hand is asked first: where it is none, no word may be taken.
def do_take(hall, row):
    hall.kind(row[1])
    word = hall.take()
    if word is None:
        hall.drop(row[1])
    else:
        hall.number(row[1], word)


def do_held(hall, row):
    hall.number(row[1], hall.held())


def do_add(hall, row):
    first = hall.value(row[1])
    hall.number(row[1], first + hall.value(row[2]))


def do_less(hall, row):
    first = hall.value(row[1])
    hall.number(row[1], first - hall.value(row[2]))


def is_same(hall, row):
    return hall.same(row[1], row[2])


def is_below(hall, row):
    first = hall.value(row[1])
    return first < hall.value(row[2])


def is_thing(hall, row):
    return hall.kind(row[1]) == "thing"


def always(hall, row):
    return True


DEEDS = {
    "make": do_make,
    "load": do_load,
    "store": do_store,
    "copy": do_copy,
    "drop": do_drop,
    "number": do_number,
    "name": do_name,
    "read": do_read,
    "word": do_word,
    "take": do_take,
    "held": do_held,
    "add": do_add,
    "less": do_less,
}

JUMPS = {"go": always, "same": is_same, "below": is_below, "thing": is_thing}


class Running:
    def __init__(self, program, hall):
        self.rows = tuple(program)
        self.hall = hall
        self.marks = mark_places(program)
        self.place = place_within(self.rows, 0)
        self.said_rows = []
        self.fault_name = None
        self.rows_done = 0

    def step(self):
        if self.place is None:
            return False
        self.rows_done += 1
        try:
            self.place = self.place_behind(self.rows[self.place])
        except HeapError as e:
            self.fault_name = e.called()
            self.place = None
        return self.place is not None

    def at(self):
        return self.place

    def told(self):
        return list(self.said_rows)

    def fault(self):
        return self.fault_name

    def steps(self):
        return self.rows_done

    # Does the row, and tells where the program goes on behind it.
    def place_behind(self, row):
        word = row[0]
        if word == "stop":
            return None
        if word in JUMPS and JUMPS[word](self.hall, row):
            return self.marks[row[-1]]
        if word in DEEDS:
            DEEDS[word](self.hall, row)
        if word == "say":
            self.said_rows.append(spoken(self.hall, row[1]))
        return place_within(self.rows, self.place + 1)


def run_all(program, hall, most):
    running = Running(program, hall)
    while running.steps() < most and running.step():
        pass
    return (running.told(), running.fault(), running.steps())


def mark_places(program):
    places = {}
    for at, row in enumerate(program):
        if row[0] == "mark":
            places[row[1]] = at
    return places


def place_within(rows, place):
    return place if place < len(rows) else None


def spoken(hall, h):
    kind = hall.kind(h)
    if kind == "number":
        return ("number", hall.value(h))
    if kind == "thing":
        return ("thing", hall.fields(h))
    return ("none",)
