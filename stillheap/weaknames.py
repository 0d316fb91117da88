"""The table of the eight weak names."""

from stillheap.values import WEAK_NAMES, look_at_name


class NameTable:
    def __init__(self):
        self.things_named = [None] * WEAK_NAMES

    def name(self, w, t):
        look_at_name(w)
        self.things_named[w] = t

    def named(self, w):
        look_at_name(w)
        return self.things_named[w]

    def all_named(self):
        return list(self.things_named)

    def settle(self, things):
        self.things_named = [None if t in things else t for t in self.things_named]
