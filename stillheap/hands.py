"""The eight hands of a hall, whatever tells a thing in them."""

from stillheap.errors import BadHand
from stillheap.values import HANDS, kind_of, look_at_hand, number_value


class Hands:
    def __init__(self):
        self.words_held = [None] * HANDS

    def word_in(self, h):
        look_at_hand(h)
        return self.words_held[h]

    def all_words(self):
        return list(self.words_held)

    def put(self, h, word):
        look_at_hand(h)
        self.words_held[h] = word

    def copy(self, h, g):
        look_at_hand(h)
        self.words_held[h] = self.word_in(g)

    def number(self, h, x):
        look_at_hand(h)
        self.words_held[h] = number_value(x)

    # One hall tells a thing by its number of making, another by its address.
    def kind(self, h):
        kind = kind_of(self.word_in(h))
        return kind if kind in ("none", "number") else "thing"

    def value(self, h):
        if self.kind(h) != "number":
            raise BadHand(f"hand {h} holds no number")
        return self.words_held[h][1]

    def same(self, h, g):
        return self.word_in(h) == self.word_in(g)

    def thing_due(self, h):
        if self.kind(h) != "thing":
            raise BadHand(f"hand {h} holds no thing")
        return self.words_held[h][1]
