"""Memory: a row of words at the addresses from 0 on."""

from stillheap.errors import BadAddress


class Memory:
    def __init__(self, size):
        self.cells = [None] * size

    def size(self):
        return len(self.cells)

    def at(self, a):
        self.look_at_address(a)
        return self.cells[a]

    def put(self, a, word):
        self.look_at_address(a)
        self.cells[a] = word

    def copy_of(self):
        other = Memory(len(self.cells))
        other.cells = list(self.cells)
        return other

    def look_at_address(self, a):
        if not 0 <= a < len(self.cells):
            raise BadAddress(f"the memory has no address {a}")
