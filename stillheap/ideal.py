"""The ideal heap, from which things go only at told turns."""

from stillheap.errors import NoRoom, NoRound, RoundOn
from stillheap.heaps import Heap
from stillheap.values import look_at_hand, look_at_limits, thing_value, words_of


class IdealHeap(Heap):
    def __init__(self, young, limit):
        look_at_limits(young, limit)
        Heap.__init__(self, young > 0)
        self.young_room = young
        self.limit = limit
        self.doomed_things = {}
        self.in_round = False

    def make(self, h, n):
        look_at_hand(h)
        size = words_of(n)
        if self.makes_young and self.words_among(self.young_things) + size > self.young_room:
            self.small()
        if self.held() + size > self.limit:
            raise NoRoom(f"{size} words more are beyond the limit")
        self.add_thing(h, n)

    def read(self, h, w):
        t = self.read_thing(h, w)
        if t in self.doomed_things:
            self.spare(t)

    def take(self):
        return self.last_words.take()

    def kind(self, h):
        return self.in_hands.kind(h)

    def value(self, h):
        return self.in_hands.value(h)

    def fields(self, h):
        return len(self.fields_held[self.in_hands.thing_due(h)])

    def same(self, h, g):
        return self.in_hands.same(h, g)

    def held(self):
        return self.words_among(self.fields_held)

    def small(self):
        self.small_round()

    def begin(self):
        if self.in_round:
            raise RoundOn("a great round is on")
        self.small()
        self.in_round = True
        kept = self.led_among(self.in_hands.all_words(), self.fields_held)
        for t in self.fields_held:
            if t not in kept:
                self.doomed_things[t] = True

    def end(self):
        if not self.in_round:
            raise NoRound("no great round is on")
        self.in_round = False
        gone = list(self.doomed_things)
        self.doomed_things = {}
        self.let_go(gone)

    def round_on(self):
        return self.in_round

    def hands(self):
        return self.in_hands.all_words()

    def names(self):
        return self.weak_names.all_named()

    def things(self):
        return sorted(self.fields_held)

    def fields_of(self, t):
        self.look_at_held(t)
        return list(self.fields_held[t])

    def is_old(self, t):
        self.look_at_held(t)
        return t not in self.young_things

    def word_of(self, t):
        self.look_at_held(t)
        return self.last_words.word_of(t)

    def doomed(self):
        return sorted(self.doomed_things)

    def said(self):
        return self.last_words.said()

    def made(self):
        return self.next_thing

    def spare(self, t):
        spared = self.led_among([thing_value(t)], self.doomed_things)
        for other in spared:
            self.doomed_things.pop(other)
