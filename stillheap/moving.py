"""The mover with a young room, out of which small rounds lay things in the half of now."""

from stillheap.layout import field_at
from stillheap.mover import MovingHall
from stillheap.values import HANDS


class Mover(MovingHall):
    def remembered(self):
        return self.young.remembered_fields()

    def address_new(self, size):
        if self.young.is_there():
            return self.young_words()[0] + self.young.words_taken
        return self.halves.place_down(size)

    def young_words(self):
        return (2 * self.limit, self.words_kept.size())

    # The remembered fields, then those of the things that are laid, each once.
    def small_round(self):
        fields = self.young.remembered_fields()
        for h in range(HANDS):
            self.in_hands.put(h, self.grown(self.in_hands.word_in(h), fields))
        done = 0
        while done < len(fields):
            self.look_young(fields[done], fields)
            done += 1
        self.leave(self.young_words())

    def look_young(self, field, fields):
        a = self.stands[field[0]]
        self.fields_looked += 1
        word = field_at(self.words_kept, a, field[1])
        self.put_word(a, field[1], self.grown(word, fields))

    # Adds to the fields those of the thing that it lays.
    def grown(self, word, fields):
        room = self.young_words()
        if self.is_unmoved(word, room):
            t = self.thing_standing(word[1])[0]
            self.move_to(t, self.halves.place_down(self.sizes[t]))
            fields.extend(self.fields_within(t))
        return self.told_anew(word, room)
