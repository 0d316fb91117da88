"""A hall whose great rounds move things from one half of its memory to the other, step by step."""

from stillheap.halls import Hall
from stillheap.halves import Halves
from stillheap.layout import field_at, lay, move, put_field, thing_at
from stillheap.memory import Memory
from stillheap.values import HANDS, kind_of, words_of


class MovingHall(Hall):
    def __init__(self, young, limit):
        Hall.__init__(self, young, limit, 2 * limit + young)
        self.words_kept = Memory(2 * limit + young)
        self.halves = Halves(limit)
        self.fields_to_look = []

    def memory(self):
        return self.words_kept.copy_of()

    def half(self):
        return self.halves.now()

    def left(self):
        return len(self.fields_to_look)

    def thing_standing(self, a):
        return thing_at(self.words_kept, a)

    def put_word(self, a, k, word):
        put_field(self.words_kept, a, k, word)

    def place_new(self, t, n):
        a = self.address_new(words_of(n))
        lay(self.words_kept, a, t, [None] * n)
        return a

    def address_new(self, size):
        return self.halves.place_down(size)

    def begin_round(self):
        self.halves.turn()
        for h in range(HANDS):
            self.in_hands.put(h, self.renewed(self.in_hands.word_in(h)))

    def look(self):
        field = self.fields_to_look.pop(0)
        self.rows.append(("look", field[0], field[1]))
        self.fields_looked += 1
        self.field_told(self.stands[field[0]], field[1])

    def end_round(self):
        self.leave(self.halves.before())

    def field_told(self, a, k):
        word = self.renewed(field_at(self.words_kept, a, k))
        self.put_word(a, k, word)
        return word

    # A field that is looked through tells no thing in the half of before.
    def ahead_of_store(self, a, k):
        self.renewed(field_at(self.words_kept, a, k))

    def name_told(self, w):
        self.weak_words[w] = self.renewed(self.weak_words[w])
        return self.weak_words[w]

    def renewed(self, word):
        before = self.halves.before()
        if self.is_unmoved(word, before):
            self.move_up(word[1])
        return self.told_anew(word, before)

    def move_up(self, a):
        t = self.thing_standing(a)[0]
        self.rows.append(("shade", t))
        self.move_to(t, self.halves.place_up(self.sizes[t]))
        self.fields_to_look.extend(self.fields_within(t))

    def move_to(self, t, b):
        move(self.words_kept, self.stands[t], b)
        self.stands[t] = b
        self.words_laid += self.sizes[t]
        self.rows.append(("move", t, b))

    def is_unmoved(self, word, room):
        return word is not None and self.told_anew(word, room) is None

    # Of a word that tells a place in the room: where the thing stands that
    # was moved from there, None where it was not moved.
    def told_anew(self, word, room):
        if kind_of(word) != "at" or not room[0] <= word[1] < room[1]:
            return word
        place = self.words_kept.at(word[1])
        return ("at", place[1]) if place[0] == "moved" else None

    # What was not moved from the room by now is gone.
    def leave(self, room):
        gone = [t for t in self.stands if room[0] <= self.stands[t] < room[1]]
        self.weak_words = [self.told_anew(word, room) for word in self.weak_words]
        for a in range(room[0], room[1]):
            self.words_kept.put(a, None)
        self.let_go(gone)


class OldMover(MovingHall):
    def __init__(self, limit):
        MovingHall.__init__(self, 0, limit)
