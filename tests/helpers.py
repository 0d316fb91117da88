"""What the tests share: a heap's whole standing, and refusals as names."""

from stillheap.errors import HeapError
from stillheap.ideal import IdealHeap
from stillheap.layout import lay
from stillheap.memory import Memory
from stillheap.pictures import first_unlike
from stillheap.running import Running


def refusal(call, *parts):
    """The name of the refusal's class, or None where nothing is refused."""
    try:
        call(*parts)
    except HeapError as error:
        return error.called()
    return None


def at(a):
    return ("at", a)


def head(t, n):
    return ("head", t, n)


def rows_behind(hall, call, *parts):
    """The rows that a deed or turn adds to the log, whether it is refused or not."""
    before = hall.log()
    refusal(call, *parts)
    log = hall.log()
    assert log[:len(before)] == before
    return log[len(before):]


def all_told(heap):
    """All that an ideal heap tells to witnesses and askers."""
    things = heap.things()
    return {
        "hands": heap.hands(),
        "names": heap.names(),
        "things": things,
        "fields": [heap.fields_of(t) for t in things],
        "old": [heap.is_old(t) for t in things],
        "words": [heap.word_of(t) for t in things],
        "doomed": heap.doomed(),
        "said": heap.said(),
        "made": heap.made(),
        "held": heap.held(),
        "round": heap.round_on(),
        "kinds": [heap.kind(h) for h in range(8)],
    }


def hall_told(hall):
    """All that a hall with a collector tells to witnesses and askers, as lists of its own."""
    told = {
        "memory": words(hall.memory()),
        "hands": list(hall.hands()),
        "names": list(hall.names()),
        "book": list(hall.book()),
        "left": hall.left(),
        "cost": hall.cost(),
        "log": list(hall.log()),
        "held": hall.held(),
        "round": hall.round_on(),
        "kinds": [hall.kind(h) for h in range(8)],
    }
    for name in ("half", "remembered", "colours"):
        if hasattr(hall, name):
            told[name] = getattr(hall, name)()
    return told


def words(memory):
    """All words of a memory, in order."""
    return [memory.at(a) for a in range(memory.size())]


def memory_of(given):
    """A memory of just these words."""
    memory = Memory(len(given))
    for a, word in enumerate(given):
        memory.put(a, word)
    return memory


def laid_out(size, things):
    """A memory with things, each told as (address, number, fields' words)."""
    memory = Memory(size)
    for a, t, values in things:
        lay(memory, a, t, values)
    return memory


def thing_numbers(values):
    return [value[1] for value in values if value is not None and value[0] == "thing"]


def led_by(starts, nexts):
    """All to which the starts lead, by whole passes until nothing is added."""
    found = set(starts)
    while True:
        more = {u for t in found for u in nexts(t)} - found
        if not more:
            return found
        found |= more


def dealt_view(dealer):
    """A small view with gaps in the numbers, rings and things that nothing leads to."""
    things = sorted(dealer.sample(range(20), dealer.randrange(1, 9)))
    told = things + [None] * dealer.randrange(1, 6)
    fields = {t: [dealer.choice(told) for _ in range(dealer.randrange(4))] for t in things}
    return ([dealer.choice(told) for _ in range(dealer.randrange(4))], fields)


def all_ways(view, most):
    """All ways of up to so many places: a list of pairs (thing, way)."""
    ways = [(t, (r, ())) for r, t in enumerate(view[0]) if t is not None]
    found = list(ways)
    for _ in range(most):
        ways = [
            (u, (way[0], way[1] + (k,)))
            for t, way in ways for k, u in enumerate(view[1][t]) if u is not None
        ]
        found.extend(ways)
    return found


def least_ways(view):
    """The told way of each reached thing, picked from all ways there are."""
    least = {}
    for t, way in all_ways(view, len(view[1])):
        key = (len(way[1]), way)
        if t not in least or key < least[t]:
            least[t] = key
    return {t: least[t][1] for t in least}


NO_VIEWS = (
    ([0], {}),
    ([None, 1], {0: []}),
    ([-1], {0: []}),
    ([], {0: [1]}),
    ([0], {0: [None, 0, 2], 1: []}),
    ([0], {0: [], 3: [4]}),
    ([0], {0: [-1]}),
    ([-1], {-1: []}),
    ([], {-1: []}),
    ([0], {0: [], -2: []}),
)


def dealt_row(dealer, plain):
    """Any row that does not jump; a plain one is none of read, take, held and word."""
    h, g, k, w = dealer.randrange(8), dealer.randrange(8), dealer.randrange(4), dealer.randrange(3)
    rows = [("make", h, dealer.choice((0, 1, 1, 2, 2, 3, 6)))] * 5 + [("load", h, g, k)] * 6 + [("store", g, k, h)] * 7
    rows += [("drop", h)] * 5 + [("copy", h, g), ("number", h, k), ("add", h, g), ("less", h, g), ("name", w, h), ("say", h)]
    if not plain:
        rows += [("read", h, w)] * 3 + [("take", h), ("held", h), ("word", h, g), ("word", h, g)]
    return dealer.choice(rows)


def dealt_program(dealer, many, plain=False):
    """A program in a loop, of rows of which few or none (where they are plain) are refused; hands are empty when it goes round."""
    heap, rows = IdealHeap(0, 400), [("mark", "again")]
    while len(rows) < many - 9:
        row = dealt_row(dealer, plain)
        run = Running((row,), heap)
        run.step()
        if run.fault() is None or not plain and dealer.randrange(400) == 0:
            rows.append(row)
            heap.begin()
            heap.end()
    return tuple(rows + [("drop", h) for h in range(8)] + [("go", "again")])


class Wrong(Exception):
    """Why a row of a log is not right."""


def need(holds, why):
    if not holds:
        raise Wrong(why)


# For each word of a log's rows what its parts are: n a number, b True or False.
LOG_FORMS = {
    "room": "nb", "load": "nnn", "store": "nnn", "copy": "nn", "drop": "n", "number": "nn", "name": "nn", "read": "nn",
    "word": "nn", "make": "nnnn", "small": "", "begin": "", "shade": "n", "look": "nn", "move": "nn", "end": "",
}


def form_of(row):
    return "".join({int: "n", bool: "b"}.get(type(part), "t") for part in row[1:])


class LogReader:
    """Goes through a log as 12.2 tells, by whole passes.

    wrong is None where all rows are right, else the place of the first one that is not, and why.
    """

    def __init__(self, log):
        self.hands, self.names = [None] * 8, [None] * 8
        self.fields, self.words, self.stands, self.young = {}, {}, {}, set()
        self.made, self.gone, self.on = 0, [], False
        self.at_begin, self.white, self.owed, self.let, self.looked = set(), set(), set(), set(), set()
        self.wrong = None
        if not log or log[0][:1] != ("room",) or form_of(log[0]) != "nb":
            self.wrong = (0, "form")
            return
        self.size, self.makes_young = log[0][1], log[0][2]
        self.read_on(log, 1)

    def read_on(self, log, place):
        for at in range(place, len(log)):
            try:
                row = log[at]
                need(row and row[0] in LOG_FORMS and row[0] != "room" and form_of(row) == LOG_FORMS[row[0]], "form")
                getattr(self, "row_" + row[0])(*row[1:])
            except Wrong as wrong:
                self.wrong = (at, str(wrong))
                return

    def told(self):
        """What judged tells of the log."""
        return ("right", self.gone) if self.wrong is None else ("wrong",) + self.wrong

    def standing(self):
        """What standing tells behind a right log."""
        return (sorted(self.white), sorted(self.unlooked()), sorted(self.stands.items()))

    def unlooked(self):
        shaded = self.at_begin - self.white
        return {(t, k) for t in shaded for k in range(len(self.fields[t]))} - self.looked

    def need_hands(self, *hands):
        for h in hands:
            need(0 <= h <= 7, "deed")

    def thing(self, h):
        self.need_hands(h)
        need(self.hands[h] is not None and self.hands[h][0] == "thing", "deed")
        return self.hands[h][1]

    def use(self, t, n, a):
        taken = {b + i for u, b in self.stands.items() for i in range(len(self.fields[u]) + 1)}
        need(not set(range(a, a + n + 1)) & taken and a >= 0 and a + n < self.size, "room")
        self.stands[t] = a

    def pending(self, t, k):
        """What white thing a field, not looked at yet, of a thing of the beginning tells."""
        need(t in self.fields and 0 <= k < len(self.fields[t]), "deed")
        told = self.fields[t][k]
        if t in self.at_begin and (t, k) not in self.looked and told is not None and told[0] == "thing":
            return {told[1]} & self.white
        return set()

    def row_make(self, h, n, t, a):
        self.need_hands(h)
        need(0 <= n <= 6, "deed")
        need(t == self.made, "number")
        self.use(t, n, a)
        self.made += 1
        self.fields[t] = [None] * n
        self.hands[h] = ("thing", t)
        if self.makes_young:
            self.young.add(t)

    def row_load(self, h, g, k):
        self.need_hands(h)
        self.let |= self.pending(self.thing(g), k)
        self.hands[h] = self.fields[self.thing(g)][k]

    def row_store(self, g, k, h):
        self.need_hands(h)
        self.owed |= self.pending(self.thing(g), k)
        self.fields[self.thing(g)][k] = self.hands[h]

    def row_copy(self, h, g):
        self.need_hands(h, g)
        self.hands[h] = self.hands[g]

    def row_drop(self, h):
        self.need_hands(h)
        self.hands[h] = None

    def row_number(self, h, x):
        self.need_hands(h)
        need(-10 ** 60 <= x <= 10 ** 60, "deed")
        self.hands[h] = ("number", x)

    def row_name(self, w, h):
        need(0 <= w <= 7, "deed")
        self.names[w] = self.thing(h)

    def row_read(self, h, w):
        self.need_hands(h)
        need(0 <= w <= 7, "deed")
        t = self.names[w]
        self.hands[h] = None if t is None else ("thing", t)
        self.owed |= {t} & self.white

    def row_word(self, h, x):
        need(-10 ** 60 <= x <= 10 ** 60 and (self.thing(h) in self.words or len(self.words) < 12), "deed")
        self.words[self.thing(h)] = x

    def go(self, gone):
        for t in gone:
            del self.fields[t], self.stands[t]
            self.words.pop(t, None)
        self.names = [None if t in gone else t for t in self.names]
        self.gone.append(sorted(gone))

    def row_small(self):
        starts = thing_numbers(self.hands)
        for t in set(self.fields) - self.young:
            starts += thing_numbers(self.fields[t])
        kept = led_by(set(starts) & self.young, lambda t: set(thing_numbers(self.fields[t])) & self.young)
        gone = self.young - kept
        self.young = set()
        self.go(gone)

    def row_begin(self):
        need(not self.on and not self.young, "round")
        self.on = True
        self.at_begin, self.white = set(self.fields), set(self.fields)
        self.owed, self.let, self.looked = set(thing_numbers(self.hands)), set(), set()

    def row_shade(self, t):
        need(self.on, "round")
        need(t in self.fields, "deed")
        need(t in self.white and t in self.owed | self.let, "colour")
        self.white.remove(t)

    def row_look(self, t, k):
        need(self.on, "round")
        met = self.pending(t, k)
        need(t in self.at_begin - self.white and (t, k) not in self.looked, "colour")
        self.owed |= met
        self.looked.add((t, k))

    def row_move(self, t, a):
        need(t in self.fields, "deed")
        self.use(t, len(self.fields[t]), a)

    def row_end(self):
        need(self.on, "round")
        need(not self.owed & self.white and not self.unlooked(), "colour")
        self.on = False
        gone = self.white
        self.at_begin, self.white = set(), set()
        self.go(gone)


class Mirror:
    """A hall with a collector beside the ideal heap that is told only the turns.

    gone has, for each row small or end of the hall's log, what went from the ideal heap.
    """

    def __init__(self, hall, ideal):
        self.hall, self.ideal = hall, ideal
        self.rows, self.reader, self.gone = 0, None, []

    def both(self, deed, *parts):
        """A deed on both: the same told, or the same refusal; a pair (told, refusal's name)."""
        answers, before, rows = [], self.ideal.things(), len(self.hall.log())
        for heap in (self.hall, self.ideal):
            try:
                answers.append((getattr(heap, deed)(*parts), None))
            except HeapError as error:
                answers.append((None, error.called()))
        assert answers[0] == answers[1], (deed, parts, answers)
        self.note_gone(before, rows)
        return answers[0]

    def step(self, k):
        before, rows = self.ideal.things(), len(self.hall.log())
        ended = self.hall.step(k)
        if ended:
            self.ideal.end()
        self.note_gone(before, rows)
        return ended

    def start(self, program):
        self.runs = (Running(program, self.hall), Running(program, self.ideal))

    def row(self):
        """One row of the program on both: the same said, the same fault, the same place; whether it goes on."""
        before, rows = self.ideal.things(), len(self.hall.log())
        goes_on = [run.step() for run in self.runs]
        told = [(run.told(), run.fault(), run.at(), run.steps()) for run in self.runs]
        assert goes_on[0] is goes_on[1] and told[0] == told[1], told
        self.note_gone(before, rows)
        return goes_on[0]

    def note_gone(self, before, rows):
        """One deed or turn does one small round or end at the most."""
        gone = [t for t in before if t not in self.ideal.things()]
        ends = [row for row in self.hall.log()[rows:] if row in (("small",), ("end",))]
        assert len(ends) == 1 or not ends and not gone
        self.gone.extend([gone] * len(ends))

    def asked(self):
        """All that is asked of hands, by both."""
        for h in range(-1, 9):
            for ask in ("kind", "value", "fields"):
                self.both(ask, h)
            for g in range(-1, 9):
                self.both("same", h, g)
        self.both("held")
        self.both("round_on")

    def unlike(self):
        """What is first not so of the hall's picture of the ideal heap."""
        hall = self.hall
        return first_unlike(self.ideal, hall.memory(), hall.hands(), hall.names(), hall.book())

    def read_log(self):
        """Reads the rows that are new in the hall's log; what they lead to is what the ideal heap holds."""
        log = self.hall.log()
        if self.reader is None:
            self.reader = LogReader(log)
        else:
            self.reader.read_on(log, self.rows)
        self.rows = len(log)
        reader, ideal = self.reader, self.ideal
        assert reader.wrong is None and reader.gone == self.gone, (reader.wrong, reader.gone, self.gone)
        assert sorted(reader.stands.items()) == self.hall.book()
        assert sorted(reader.fields) == ideal.things()
        assert reader.hands == ideal.hands() and reader.names == ideal.names()
        assert [reader.fields[t] for t in ideal.things()] == [ideal.fields_of(t) for t in ideal.things()]
        assert reader.young == {t for t in ideal.things() if not ideal.is_old(t)}
        assert reader.words == {t: ideal.word_of(t) for t in ideal.things() if ideal.word_of(t) is not None}


class HallRefusals:
    """Tests of the refusals of a hall with a collector, for a TestCase that has new_hall(limit)."""

    def halls(self):
        """Halls with a thing of two fields in hand 0, a number in hand 1, weak name 0, in and out of a round."""
        for begun in (False, True):
            hall = self.new_hall(7)
            hall.make(0, 2)
            hall.number(1, 5)
            hall.name(0, 0)
            hall.make(2, 0)
            hall.store(0, 0, 2)
            hall.drop(2)
            if begun:
                hall.begin()
            yield hall

    def assert_refused(self, name, deed, *parts):
        for hall in self.halls():
            hall.load(3, 0, 0)
            hall.drop(3)
            hall.copy(3, 0)
            before = hall_told(hall)
            self.assertEqual(refusal(getattr(hall, deed), *parts), name, (deed, parts))
            self.assertEqual(hall_told(hall), before)

    def test_hands(self):
        for h in (-1, 8):
            cases = (("make", h, 7), ("load", h, 9, 9), ("load", 0, h, 9), ("store", h, 9, 9), ("store", 0, 9, h),
                     ("copy", h, 9), ("copy", 0, h), ("drop", h), ("number", h, 10 ** 61), ("name", 9, h),
                     ("read", h, 9), ("word", h, 10 ** 61), ("kind", h), ("value", h), ("fields", h), ("same", h, 9),
                     ("same", 0, h), ("load", h, 0, 0), ("store", 0, 0, h), ("copy", h, 0), ("read", h, 0), ("make", h, 0))
            for deed in cases:
                self.assert_refused("BadHand", *deed)

    def test_hands_that_hold_no_thing_or_no_number(self):
        for h in (1, 7):
            for deed in (("load", 0, h, 9), ("store", h, 9, 9), ("name", 9, h), ("word", h, 10 ** 61), ("fields", h)):
                self.assert_refused("BadHand", *deed)
        for h in (0, 7):
            self.assert_refused("BadHand", "value", h)

    def test_names(self):
        for w in (-1, 8):
            self.assert_refused("BadName", "name", w, 0)
            self.assert_refused("BadName", "read", 0, w)

    def test_fields(self):
        for k in (-1, 2, 6):
            self.assert_refused("BadField", "load", 7, 0, k)
            self.assert_refused("BadField", "store", 0, k, 7)

    def test_counts(self):
        for n in (-1, 7):
            self.assert_refused("BadCount", "make", 0, n)
        for x in (10 ** 60 + 1, -10 ** 60 - 1):
            self.assert_refused("BadCount", "number", 0, x)
            self.assert_refused("BadCount", "word", 0, x)

    def test_no_room(self):
        for n in (3, 6):
            self.assert_refused("NoRoom", "make", 0, n)

    def test_too_many_words(self):
        hall = self.new_hall(20)
        for x in range(12):
            hall.make(0, 0)
            hall.word(0, x)
            hall.small()
        hall.make(1, 0)
        for begun in (False, True):
            if begun:
                hall.begin()
            before = hall_told(hall)
            self.assertEqual(refusal(hall.word, 1, 10 ** 60 + 1), "BadCount")
            self.assertEqual(refusal(hall.word, 1, 5), "TooManyWords")
            self.assertEqual(hall_told(hall), before)
        hall.word(0, 9)
        hall.step(1)
        hall.word(1, 5)
        self.assertEqual([hall.take() for _ in range(12)], list(range(11)) + [None])

    def test_rounds(self):
        hall = self.new_hall(20)
        for k in (0, -1, 1001, 10 ** 60):
            self.assertEqual(refusal(hall.step, k), "BadCount")
        for k in (1, 1000):
            self.assertEqual(refusal(hall.step, k), "NoRound")
        self.assertEqual(hall_told(hall), hall_told(self.new_hall(20)))
        hall.make(0, 3)
        hall.begin()
        before = hall_told(hall)
        self.assertEqual(refusal(hall.begin), "RoundOn")
        for k in (0, -1, 1001):
            self.assertEqual(refusal(hall.step, k), "BadCount")
        self.assertEqual(hall_told(hall), before)
        self.assertIs(hall.step(1), False)
        self.assertIs(hall.step(1000), True)
        self.assertEqual(refusal(hall.step, 1), "NoRound")
