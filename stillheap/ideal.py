"""The ideal heap, from which things go only at told turns."""

from stillheap.errors import BadView, NoRoom, NoRound, RoundOn
from stillheap.hands import Hands
from stillheap.lastwords import WordTable
from stillheap.reach import last_steps
from stillheap.values import kind_of, look_at_field, look_at_hand, look_at_limits, look_at_number
from stillheap.values import thing_value, words_of
from stillheap.weaknames import NameTable


class IdealHeap:
    def __init__(self, young, limit):
        look_at_limits(young, limit)
        self.young_room = young
        self.limit = limit
        self.in_hands = Hands()
        self.weak_names = NameTable()
        self.last_words = WordTable()
        self.fields_held = {}
        self.young_things = {}
        self.doomed_things = {}
        self.next_thing = 0
        self.in_round = False

    def make(self, h, n):
        look_at_hand(h)
        size = words_of(n)
        if self.young_room > 0 and self.words_among(self.young_things) + size > self.young_room:
            self.small()
        if self.held() + size > self.limit:
            raise NoRoom(f"{size} words more are beyond the limit")
        t = self.next_thing
        self.next_thing = t + 1
        self.fields_held[t] = [None] * n
        if self.young_room > 0:
            self.young_things[t] = True
        self.in_hands.put(h, thing_value(t))

    def load(self, h, g, k):
        look_at_hand(h)
        fields = self.fields_held[self.in_hands.thing_due(g)]
        look_at_field(k, len(fields))
        self.in_hands.put(h, fields[k])

    def store(self, g, k, h):
        fields = self.fields_held[self.in_hands.thing_due(g)]
        value = self.in_hands.word_in(h)
        look_at_field(k, len(fields))
        fields[k] = value

    def copy(self, h, g):
        self.in_hands.copy(h, g)

    def drop(self, h):
        self.in_hands.put(h, None)

    def number(self, h, x):
        self.in_hands.number(h, x)

    def name(self, w, h):
        t = self.in_hands.thing_due(h)
        self.weak_names.name(w, t)

    def read(self, h, w):
        look_at_hand(h)
        t = self.weak_names.named(w)
        self.in_hands.put(h, None if t is None else thing_value(t))
        if t in self.doomed_things:
            self.spare(t)

    def word(self, h, x):
        t = self.in_hands.thing_due(h)
        look_at_number(x)
        self.last_words.bear(t, x)

    def take(self):
        return self.last_words.take()

    def kind(self, h):
        return self.in_hands.kind(h)

    def value(self, h):
        return self.in_hands.value(h)

    def fields(self, h):
        return len(self.fields_held[self.in_hands.thing_due(h)])

    def same(self, h, g):
        return self.in_hands.same(h, g)

    def held(self):
        return self.words_among(self.fields_held)

    def small(self):
        leads = self.in_hands.all_words()
        for t in self.fields_held:
            if t not in self.young_things:
                leads.extend(self.fields_held[t])
        kept = self.led_among(leads, self.young_things)
        gone = [t for t in self.young_things if t not in kept]
        self.young_things = {}
        self.let_go(gone)

    def begin(self):
        if self.in_round:
            raise RoundOn("a great round is on")
        self.small()
        self.in_round = True
        kept = self.led_among(self.in_hands.all_words(), self.fields_held)
        for t in self.fields_held:
            if t not in kept:
                self.doomed_things[t] = True

    def end(self):
        if not self.in_round:
            raise NoRound("no great round is on")
        self.in_round = False
        gone = list(self.doomed_things)
        self.doomed_things = {}
        self.let_go(gone)

    def round_on(self):
        return self.in_round

    def hands(self):
        return self.in_hands.all_words()

    def names(self):
        return self.weak_names.all_named()

    def things(self):
        return sorted(self.fields_held)

    def fields_of(self, t):
        self.look_at_held(t)
        return list(self.fields_held[t])

    def is_old(self, t):
        self.look_at_held(t)
        return t not in self.young_things

    def word_of(self, t):
        self.look_at_held(t)
        return self.last_words.word_of(t)

    def doomed(self):
        return sorted(self.doomed_things)

    def said(self):
        return self.last_words.said()

    def made(self):
        return self.next_thing

    def look_at_held(self, t):
        if t not in self.fields_held:
            raise BadView(f"{t} is not held")

    def words_among(self, things):
        return sum([words_of(len(self.fields_held[t])) for t in things])

    # All to which the values lead, straight or through these things alone:
    # what tells another thing tells nothing here.
    def led_among(self, leads, things):
        fields = {}
        for t in things:
            fields[t] = [thing_among(value, things) for value in self.fields_held[t]]
        return last_steps(([thing_among(value, things) for value in leads], fields))

    def spare(self, t):
        spared = self.led_among([thing_value(t)], self.doomed_things)
        for other in spared:
            self.doomed_things.pop(other)

    def let_go(self, gone):
        for t in gone:
            self.fields_held.pop(t)
        self.weak_names.settle(gone)
        self.last_words.settle(gone)


def thing_among(value, things):
    if kind_of(value) == "thing" and value[1] in things:
        return value[1]
    return None
