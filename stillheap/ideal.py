"""The ideal heap, from which things go only at told turns."""

from stillheap.errors import BadHand, BadView, NoRoom, NoRound, RoundOn, TooManyWords
from stillheap.reach import last_steps
from stillheap.values import HANDS, WEAK_NAMES, kind_of, look_at_field, look_at_hand, look_at_limits
from stillheap.values import look_at_name, look_at_number, number_value, thing_value, words_of

MOST_BEARERS = 12


class IdealHeap:
    def __init__(self, young, limit):
        look_at_limits(young, limit)
        self.young_room = young
        self.limit = limit
        self.in_hands = [None] * HANDS
        self.weak_names = [None] * WEAK_NAMES
        self.fields_held = {}
        self.young_things = {}
        self.doomed_things = {}
        self.last_words = {}
        self.words_said = []
        self.next_thing = 0
        self.in_round = False

    def make(self, h, n):
        look_at_hand(h)
        size = words_of(n)
        if self.young_room > 0 and self.words_among(self.young_things) + size > self.young_room:
            self.small()
        if self.held() + size > self.limit:
            raise NoRoom(f"{size} words more are beyond the limit")
        t = self.next_thing
        self.next_thing = t + 1
        self.fields_held[t] = [None] * n
        if self.young_room > 0:
            self.young_things[t] = True
        self.in_hands[h] = thing_value(t)

    def load(self, h, g, k):
        look_at_hand(h)
        fields = self.fields_held[self.thing_due(g)]
        look_at_field(k, len(fields))
        self.in_hands[h] = fields[k]

    def store(self, g, k, h):
        fields = self.fields_held[self.thing_due(g)]
        look_at_hand(h)
        look_at_field(k, len(fields))
        fields[k] = self.in_hands[h]

    def copy(self, h, g):
        look_at_hand(h)
        look_at_hand(g)
        self.in_hands[h] = self.in_hands[g]

    def drop(self, h):
        look_at_hand(h)
        self.in_hands[h] = None

    def number(self, h, x):
        look_at_hand(h)
        self.in_hands[h] = number_value(x)

    def name(self, w, h):
        t = self.thing_due(h)
        look_at_name(w)
        self.weak_names[w] = t

    def read(self, h, w):
        look_at_hand(h)
        look_at_name(w)
        t = self.weak_names[w]
        self.in_hands[h] = None if t is None else thing_value(t)
        if t in self.doomed_things:
            self.spare(t)

    def word(self, h, x):
        t = self.thing_due(h)
        look_at_number(x)
        if t not in self.last_words and len(self.last_words) >= MOST_BEARERS:
            raise TooManyWords(f"{MOST_BEARERS} held things bear last words")
        self.last_words[t] = x

    def take(self):
        if len(self.words_said) == 0:
            return None
        return self.words_said.pop(0)

    def kind(self, h):
        look_at_hand(h)
        return kind_of(self.in_hands[h])

    def value(self, h):
        if self.kind(h) != "number":
            raise BadHand(f"hand {h} holds no number")
        return self.in_hands[h][1]

    def fields(self, h):
        return len(self.fields_held[self.thing_due(h)])

    def same(self, h, g):
        look_at_hand(h)
        look_at_hand(g)
        return self.in_hands[h] == self.in_hands[g]

    def held(self):
        return self.words_among(self.fields_held)

    def small(self):
        leads = list(self.in_hands)
        for t in self.fields_held:
            if t not in self.young_things:
                leads.extend(self.fields_held[t])
        kept = self.led_among(leads, self.young_things)
        gone = [t for t in self.young_things if t not in kept]
        self.young_things = {}
        self.let_go(gone)

    def begin(self):
        if self.in_round:
            raise RoundOn("a great round is on")
        self.small()
        self.in_round = True
        kept = self.led_among(self.in_hands, self.fields_held)
        for t in self.fields_held:
            if t not in kept:
                self.doomed_things[t] = True

    def end(self):
        if not self.in_round:
            raise NoRound("no great round is on")
        self.in_round = False
        gone = list(self.doomed_things)
        self.doomed_things = {}
        self.let_go(gone)

    def round_on(self):
        return self.in_round

    def hands(self):
        return list(self.in_hands)

    def names(self):
        return list(self.weak_names)

    def things(self):
        return sorted(self.fields_held)

    def fields_of(self, t):
        self.look_at_held(t)
        return list(self.fields_held[t])

    def is_old(self, t):
        self.look_at_held(t)
        return t not in self.young_things

    def word_of(self, t):
        self.look_at_held(t)
        return self.last_words.get(t)

    def doomed(self):
        return sorted(self.doomed_things)

    def said(self):
        return list(self.words_said)

    def made(self):
        return self.next_thing

    def thing_due(self, h):
        if self.kind(h) != "thing":
            raise BadHand(f"hand {h} holds no thing")
        return self.in_hands[h][1]

    def look_at_held(self, t):
        if t not in self.fields_held:
            raise BadView(f"{t} is not held")

    def words_among(self, things):
        return sum([words_of(len(self.fields_held[t])) for t in things])

    # All to which the values lead, straight or through these things alone:
    # what tells another thing tells nothing here.
    def led_among(self, leads, things):
        fields = {}
        for t in things:
            fields[t] = [thing_among(value, things) for value in self.fields_held[t]]
        return last_steps(([thing_among(value, things) for value in leads], fields))

    def spare(self, t):
        spared = self.led_among([thing_value(t)], self.doomed_things)
        for other in spared:
            self.doomed_things.pop(other)

    def let_go(self, gone):
        for t in sorted(gone):
            self.fields_held.pop(t)
            if t in self.last_words:
                self.words_said.append(self.last_words.pop(t))
        self.weak_names = [t if t in self.fields_held else None for t in self.weak_names]


def thing_among(value, things):
    if kind_of(value) == "thing" and value[1] in things:
        return value[1]
    return None
