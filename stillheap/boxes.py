"""Boxes of seven words, each free or with one thing at its beginning."""

from stillheap.errors import BadAddress, NoRoom
from stillheap.layout import lay, put_field, thing_at
from stillheap.memory import Memory

BOX_WORDS = 7


class Boxes:
    def __init__(self, many):
        self.words_kept = Memory(BOX_WORDS * many)
        self.taken_firsts = {}

    def lay(self, t, values):
        a = self.least_free()
        lay(self.words_kept, a, t, values)
        self.taken_firsts[a] = True
        return a

    def thing(self, a):
        self.look_at_thing_in(a)
        return thing_at(self.words_kept, a)

    def put(self, a, k, word):
        self.look_at_thing_in(a)
        put_field(self.words_kept, a, k, word)

    def clear(self, a):
        self.look_at_thing_in(a)
        self.taken_firsts.pop(a)
        for i in range(BOX_WORDS):
            self.words_kept.put(a + i, None)

    def memory(self):
        return self.words_kept.copy_of()

    def firsts(self):
        return sorted(self.taken_firsts)

    def least_free(self):
        for a in range(0, self.words_kept.size(), BOX_WORDS):
            if a not in self.taken_firsts:
                return a
        raise NoRoom("no box is free")

    # A head's word may be put into a field: so what stands at an address does
    # not tell whether a thing was laid there.
    def look_at_thing_in(self, a):
        if a not in self.taken_firsts:
            raise BadAddress(f"no thing stands in a box at {a}")
