"""The colours of a great round as a judge of logs knows them: what is white, owed and let."""


class RoundColours:
    def __init__(self):
        self.going_on = False
        self.counts_at_begin = {}
        self.white_things = {}
        self.owed_things = {}
        self.let_things = {}
        self.looks_done = {}

    def is_on(self):
        return self.going_on

    # The counts of fields of all things that are held at the beginning.
    def begin(self, counts):
        self.going_on = True
        self.counts_at_begin = dict(counts)
        for t in counts:
            self.white_things[t] = True

    # A field, not looked at yet, of a thing that was held at the beginning.
    def waits(self, t, k):
        return t in self.counts_at_begin and (t, k) not in self.looks_done

    def owe(self, t):
        if t in self.white_things:
            self.owed_things[t] = True

    def let_by(self, t):
        if t in self.white_things:
            self.let_things[t] = True

    def may_shade(self, t):
        return t in self.owed_things or t in self.let_things

    # What is owed or let is white: so it is neither any more.
    def shade(self, t):
        self.white_things.pop(t)
        self.owed_things.pop(t, None)
        self.let_things.pop(t, None)

    def may_look(self, t, k):
        return self.waits(t, k) and t not in self.white_things

    def look(self, t, k):
        self.looks_done[(t, k)] = True

    def may_end(self):
        return len(self.owed_things) == 0 and len(self.fields_waiting()) == 0

    # Tells the things that are gone by it.
    def end(self):
        gone = self.all_white()
        self.going_on = False
        self.counts_at_begin = {}
        self.white_things = {}
        self.let_things = {}
        self.looks_done = {}
        return gone

    def all_white(self):
        return sorted(self.white_things)

    def fields_waiting(self):
        fields = []
        for t in sorted(self.counts_at_begin):
            if t not in self.white_things:
                fields.extend([(t, k) for k in range(self.counts_at_begin[t]) if (t, k) not in self.looks_done])
        return fields
