"""Young things: how full their room is, and which old things' fields tell them."""


class YoungRoom:
    def __init__(self, words):
        self.room_words = words
        self.words_taken = 0
        self.young_things = {}
        self.fields_telling = {}

    def is_there(self):
        return self.room_words > 0

    def lacks(self, size):
        return self.is_there() and self.words_taken + size > self.room_words

    # Where there is no young room, things are old from their making.
    def take_in(self, t, size):
        if self.is_there():
            self.young_things[t] = True
            self.words_taken += size

    def has(self, t):
        return t in self.young_things

    def grow_old(self, t):
        self.young_things.pop(t)

    def things_left(self):
        return sorted(self.young_things)

    # An old thing's field got a value: it is remembered just while it tells
    # a young thing, so the one that it told before does not count.
    def note(self, t, k, tells_young):
        if tells_young and not self.has(t):
            self.fields_telling[(t, k)] = True
        else:
            self.fields_telling.pop((t, k), None)

    def remembered_fields(self):
        return sorted(self.fields_telling)

    def leave(self):
        self.words_taken = 0
        self.young_things = {}
        self.fields_telling = {}
