"""A hall whose great rounds mark things where they stand, step by step, and then free the boxes of all others."""

from stillheap.boxes import BOX_WORDS, Boxes
from stillheap.halls import Hall
from stillheap.values import kind_of


class Marker(Hall):
    def __init__(self, young, limit):
        Hall.__init__(self, young, limit, BOX_WORDS * limit)
        self.boxes = Boxes(limit)
        self.white_things = {}
        self.grey_places = {}

    def memory(self):
        return self.boxes.memory()

    def left(self):
        return sum([self.sizes[t] - 1 - self.grey_places[t] for t in self.grey_places])

    def colours(self):
        if not self.in_round:
            return []
        return [(t, self.colour_of(t)) for t in sorted(self.stands)]

    def colour_of(self, t):
        if t in self.white_things:
            return "white"
        return "grey" if t in self.grey_places else "black"

    def thing_standing(self, a):
        return self.boxes.thing(a)

    def put_word(self, a, k, word):
        self.boxes.put(a, k, word)

    def place_new(self, t, n):
        return self.boxes.lay(t, [None] * n)

    def begin_round(self):
        for t in self.stands:
            self.white_things[t] = True
        for word in self.in_hands.all_words():
            self.shade_told(word)

    # Of a grey thing is kept the place to be looked at next, so that the one
    # made first may go on where an earlier step left it.
    def look(self):
        t = min(self.grey_places)
        k = self.grey_places[t]
        self.rows.append(("look", t, k))
        self.fields_looked += 1
        self.grey_places[t] = k + 1
        if k + 2 == self.sizes[t]:
            self.grey_places.pop(t)
        self.shade_told(self.field_told(self.stands[t], k))

    def end_round(self):
        gone = list(self.white_things)
        self.white_things = {}
        self.free(gone)

    # A white thing may come into a hand: only what leads to it is watched.
    def field_told(self, a, k):
        return self.thing_standing(a)[1][k]

    def ahead_of_store(self, a, k):
        t = self.thing_standing(a)[0]
        if t in self.white_things or self.grey_places.get(t, k + 1) <= k:
            self.shade_told(self.field_told(a, k))

    def name_told(self, w):
        self.shade_told(self.weak_words[w])
        return self.weak_words[w]

    def shade_told(self, word):
        if kind_of(word) == "at":
            t = self.thing_standing(word[1])[0]
            if t in self.white_things:
                self.shade(t)

    def shade(self, t):
        self.rows.append(("shade", t))
        self.white_things.pop(t)
        if self.sizes[t] > 1:
            self.grey_places[t] = 0

    # Adds to the fields those of the thing that grows old.
    def grown(self, word, fields):
        if self.tells_young(word):
            t = self.thing_standing(word[1])[0]
            self.young.grow_old(t)
            fields.extend(self.fields_within(t))
        return word

    def leave_young(self):
        self.free(self.young.things_left())

    def free(self, gone):
        places = [("at", self.stands[t]) for t in gone]
        self.weak_words = [None if word in places else word for word in self.weak_words]
        for place in places:
            self.boxes.clear(place[1])
        self.let_go(gone)
