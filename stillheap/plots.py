"""Which words of a memory are taken, and by which things."""


class Plots:
    def __init__(self, words):
        self.words_there = words
        self.plots_taken = {}
        self.words_taken = {}

    def are_free(self, a, size):
        if a < 0 or a + size > self.words_there:
            return False
        return not any([a + i in self.words_taken for i in range(size)])

    def take_plot(self, t, a, size):
        self.plots_taken[t] = (a, size)
        for i in range(size):
            self.words_taken[a + i] = True

    def leave_plot(self, t):
        plot = self.plots_taken.pop(t)
        for i in range(plot[1]):
            self.words_taken.pop(plot[0] + i)

    def all_plots(self):
        return [(t, self.plots_taken[t][0]) for t in sorted(self.plots_taken)]
