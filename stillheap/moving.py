"""The mover with a young room, out of which small rounds lay things in the half of now."""

from stillheap.mover import MovingHall


class Mover(MovingHall):
    def remembered(self):
        return self.young.remembered_fields()

    def address_new(self, size):
        if self.young.is_there():
            return self.young_words()[0] + self.young.words_taken
        return self.halves.place_down(size)

    def young_words(self):
        return (2 * self.limit, self.words_kept.size())

    # Adds to the fields those of the thing that it lays.
    def grown(self, word, fields):
        room = self.young_words()
        if self.is_unmoved(word, room):
            t = self.thing_standing(word[1])[0]
            self.move_to(t, self.halves.place_down(self.sizes[t]))
            fields.extend(self.fields_within(t))
        return self.told_anew(word, room)

    def leave_young(self):
        self.leave(self.young_words())
