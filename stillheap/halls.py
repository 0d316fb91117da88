"""What every hall with a collector has: hands, weak names, deeds, a log and the cost."""

from stillheap.errors import BadCount, NoRoom, NoRound, RoundOn
from stillheap.hands import Hands
from stillheap.lastwords import WordTable
from stillheap.values import HANDS, WEAK_NAMES, kind_of, look_at_field, look_at_hand, look_at_limits
from stillheap.values import look_at_name, look_at_number, words_of
from stillheap.young import YoungRoom

MOST_STEP = 1000


# A thing is told by its address here, as the words of memory tell it. The
# classes under this one bring the memory, and what their collectors do:
# thing_standing, put_word and place_new; field_told, ahead_of_store and
# name_told, which are asked behind a deed's row; begin_round, look, left and
# end_round; and, for a young room, grown and leave_young.
class Hall:
    def __init__(self, young, limit, words):
        look_at_limits(young, limit)
        self.limit = limit
        self.young = YoungRoom(young)
        self.in_hands = Hands()
        self.weak_words = [None] * WEAK_NAMES
        self.last_words = WordTable()
        self.stands = {}
        self.sizes = {}
        self.next_thing = 0
        self.in_round = False
        self.rows = [("room", words, young > 0)]
        self.fields_looked = 0
        self.words_laid = 0

    def make(self, h, n):
        look_at_hand(h)
        size = words_of(n)
        small_due = self.young.lacks(size)
        if small_due:
            self.small()
        if self.held() + size > self.limit:
            raise NoRoom(f"{size} words more are beyond the limit")
        if not small_due:
            self.clear_cost()
        t = self.next_thing
        self.next_thing = t + 1
        a = self.place_new(t, n)
        self.stands[t] = a
        self.sizes[t] = size
        self.young.take_in(t, size)
        self.in_hands.put(h, ("at", a))
        self.rows.append(("make", h, n, t, a))

    def load(self, h, g, k):
        look_at_hand(h)
        a = self.in_hands.thing_due(g)
        look_at_field(k, self.fields(g))
        self.tell_deed(("load", h, g, k))
        self.in_hands.put(h, self.field_told(a, k))

    def store(self, g, k, h):
        a = self.in_hands.thing_due(g)
        word = self.in_hands.word_in(h)
        look_at_field(k, self.fields(g))
        self.tell_deed(("store", g, k, h))
        self.ahead_of_store(a, k)
        self.put_word(a, k, word)
        self.young.note(self.thing_standing(a)[0], k, self.tells_young(word))

    def copy(self, h, g):
        self.in_hands.copy(h, g)
        self.tell_deed(("copy", h, g))

    def drop(self, h):
        self.in_hands.put(h, None)
        self.tell_deed(("drop", h))

    def number(self, h, x):
        self.in_hands.number(h, x)
        self.tell_deed(("number", h, x))

    def name(self, w, h):
        a = self.in_hands.thing_due(h)
        look_at_name(w)
        self.weak_words[w] = ("at", a)
        self.tell_deed(("name", w, h))

    def read(self, h, w):
        look_at_hand(h)
        look_at_name(w)
        self.tell_deed(("read", h, w))
        self.in_hands.put(h, self.name_told(w))

    def word(self, h, x):
        t = self.thing_standing(self.in_hands.thing_due(h))[0]
        look_at_number(x)
        self.last_words.bear(t, x)
        self.tell_deed(("word", h, x))

    def take(self):
        self.clear_cost()
        return self.last_words.take()

    def kind(self, h):
        return self.in_hands.kind(h)

    def value(self, h):
        return self.in_hands.value(h)

    def fields(self, h):
        return len(self.thing_standing(self.in_hands.thing_due(h))[1])

    def same(self, h, g):
        return self.in_hands.same(h, g)

    def held(self):
        return sum(self.sizes.values())

    def small(self):
        self.tell_deed(("small",))
        if self.young.is_there():
            self.small_round()
        self.young.leave()

    def begin(self):
        if self.in_round:
            raise RoundOn("a great round is on")
        self.small()
        self.rows.append(("begin",))
        self.in_round = True
        self.begin_round()

    def step(self, k):
        if not 1 <= k <= MOST_STEP:
            raise BadCount(f"{k} is no step")
        if not self.in_round:
            raise NoRound("no great round is on")
        self.clear_cost()
        while self.fields_looked < k and self.left() > 0:
            self.look()
        if self.left() > 0:
            return False
        self.in_round = False
        self.rows.append(("end",))
        self.end_round()
        return True

    def round_on(self):
        return self.in_round

    def hands(self):
        return self.in_hands.all_words()

    def names(self):
        return list(self.weak_words)

    def book(self):
        return [(t, self.stands[t]) for t in sorted(self.stands)]

    def cost(self):
        return (self.fields_looked, self.words_laid)

    def log(self):
        return list(self.rows)

    def tell_deed(self, row):
        self.rows.append(row)
        self.clear_cost()

    def clear_cost(self):
        self.fields_looked = 0
        self.words_laid = 0

    def tells_young(self, word):
        return kind_of(word) == "at" and self.young.has(self.thing_standing(word[1])[0])

    # The remembered fields, then those of the things that grew old, each once.
    def small_round(self):
        fields = self.young.remembered_fields()
        for h in range(HANDS):
            self.in_hands.put(h, self.grown(self.in_hands.word_in(h), fields))
        done = 0
        while done < len(fields):
            self.look_young(fields[done], fields)
            done += 1
        self.leave_young()

    def look_young(self, field, fields):
        a = self.stands[field[0]]
        k = field[1]
        self.fields_looked += 1
        self.put_word(a, k, self.grown(self.thing_standing(a)[1][k], fields))

    def fields_within(self, t):
        return [(t, k) for k in range(self.sizes[t] - 1)]

    def let_go(self, gone):
        for t in gone:
            self.stands.pop(t)
            self.sizes.pop(t)
        self.last_words.settle(gone)
