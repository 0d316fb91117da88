"""A heap of things by their numbers of making, without a limit and without great rounds."""

from stillheap.errors import BadView
from stillheap.hands import Hands
from stillheap.lastwords import WordTable
from stillheap.reach import last_steps
from stillheap.values import kind_of, look_at_field, look_at_hand, look_at_number, thing_value, words_of
from stillheap.weaknames import NameTable


# What the ideal heap and the judge of logs share: each of them tells by itself
# when things are made, and which are gone at the end of a great round.
class Heap:
    def __init__(self, makes_young):
        self.makes_young = makes_young
        self.in_hands = Hands()
        self.weak_names = NameTable()
        self.last_words = WordTable()
        self.fields_held = {}
        self.young_things = {}
        self.next_thing = 0

    def add_thing(self, h, n):
        t = self.next_thing
        self.next_thing = t + 1
        self.fields_held[t] = [None] * n
        if self.makes_young:
            self.young_things[t] = True
        self.in_hands.put(h, thing_value(t))

    def load(self, h, g, k):
        look_at_hand(h)
        fields = self.fields_held[self.in_hands.thing_due(g)]
        look_at_field(k, len(fields))
        self.in_hands.put(h, fields[k])

    def store(self, g, k, h):
        fields = self.fields_held[self.in_hands.thing_due(g)]
        value = self.in_hands.word_in(h)
        look_at_field(k, len(fields))
        fields[k] = value

    def copy(self, h, g):
        self.in_hands.copy(h, g)

    def drop(self, h):
        self.in_hands.put(h, None)

    def number(self, h, x):
        self.in_hands.number(h, x)

    def name(self, w, h):
        t = self.in_hands.thing_due(h)
        self.weak_names.name(w, t)

    # Tells the thing, as what read gives back may be kept by it.
    def read_thing(self, h, w):
        look_at_hand(h)
        t = self.weak_names.named(w)
        self.in_hands.put(h, None if t is None else thing_value(t))
        return t

    def word(self, h, x):
        t = self.in_hands.thing_due(h)
        look_at_number(x)
        self.last_words.bear(t, x)

    # Tells which things went.
    def small_round(self):
        leads = self.in_hands.all_words()
        for t in self.fields_held:
            if t not in self.young_things:
                leads.extend(self.fields_held[t])
        kept = self.led_among(leads, self.young_things)
        gone = [t for t in self.young_things if t not in kept]
        self.young_things = {}
        self.let_go(gone)
        return gone

    def let_go(self, gone):
        for t in gone:
            self.fields_held.pop(t)
        self.weak_names.settle(gone)
        self.last_words.settle(gone)

    def look_at_held(self, t):
        if t not in self.fields_held:
            raise BadView(f"{t} is not held")

    def field_value(self, t, k):
        self.look_at_held(t)
        look_at_field(k, len(self.fields_held[t]))
        return self.fields_held[t][k]

    def counts_held(self):
        counts = {}
        for t in self.fields_held:
            counts[t] = len(self.fields_held[t])
        return counts

    def words_among(self, things):
        return sum([words_of(len(self.fields_held[t])) for t in things])

    # All to which the values lead, straight or through these things alone:
    # what tells another thing tells nothing here.
    def led_among(self, leads, things):
        fields = {}
        for t in things:
            fields[t] = [thing_among(value, things) for value in self.fields_held[t]]
        return last_steps(([thing_among(value, things) for value in leads], fields))


def thing_among(value, things):
    if kind_of(value) == "thing" and value[1] in things:
        return value[1]
    return None
