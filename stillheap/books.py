"""Books: which thing stands at which address."""

from stillheap.layout import resolved, thing_at


def book_of(memory, firsts):
    stands = {}
    for first in firsts:
        a = resolved(memory, first)
        stands[thing_at(memory, a)[0]] = a
    return [(t, stands[t]) for t in sorted(stands)]


def address_in(book, t):
    for pair in book:
        if pair[0] == t:
            return pair[1]
    return None


def is_book(book):
    return all([book[i][0] < book[i + 1][0] for i in range(len(book) - 1)])
