"""The two halves of a mover's memory: which is that of now, and what of it is taken."""


class Halves:
    def __init__(self, words):
        self.half_words = words
        self.now_first = 0
        self.taken_up_to = 0
        self.taken_from = words

    def now(self):
        return self.now_first

    # The half of before: its first address, and the one behind its last.
    def before(self):
        first = self.half_words - self.now_first
        return (first, first + self.half_words)

    def turn(self):
        self.now_first = self.before()[0]
        self.taken_up_to = self.now_first
        self.taken_from = self.now_first + self.half_words

    def place_up(self, size):
        a = self.taken_up_to
        self.taken_up_to = a + size
        return a

    def place_down(self, size):
        self.taken_from -= size
        return self.taken_from
