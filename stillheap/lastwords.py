"""The table of last words: which things bear some, and which words were said."""

from stillheap.errors import TooManyWords

MOST_BEARERS = 12


class WordTable:
    def __init__(self):
        self.words_borne = {}
        self.words_said = []

    def bear(self, t, x):
        if t not in self.words_borne and len(self.words_borne) >= MOST_BEARERS:
            raise TooManyWords(f"{MOST_BEARERS} held things bear last words")
        self.words_borne[t] = x

    def word_of(self, t):
        return self.words_borne.get(t)

    def bearers(self):
        return sorted(self.words_borne)

    def settle(self, things):
        for t in sorted(things):
            if t in self.words_borne:
                self.words_said.append(self.words_borne.pop(t))

    def take(self):
        if len(self.words_said) == 0:
            return None
        return self.words_said.pop(0)

    def said(self):
        return list(self.words_said)
