"""Pictures: whether a book in a memory shows an ideal heap."""

from stillheap.errors import BadAddress
from stillheap.layout import resolved
from stillheap.values import kind_of, thing_value, words_of


def is_picture(ideal, memory, hands, names, book):
    return first_unlike(ideal, memory, hands, names, book) is None


# Each look goes over all things ahead of the next look, as an unlike address
# of the last thing is told ahead of an unlike head of the first one.
def first_unlike(ideal, memory, hands, names, book):
    # Held things are told ascending: so a list of just these is a book.
    if [pair[0] for pair in book] != ideal.things():
        return ("book",)
    unlike = first_misplaced(ideal, memory, book)
    if unlike is None:
        unlike = first_headless(ideal, memory, book)
    if unlike is None:
        unlike = first_unlike_field(ideal, memory, book)
    if unlike is None:
        unlike = first_unlike_word("hand", ideal.hands(), memory, hands, book)
    if unlike is None:
        named = [None if t is None else thing_value(t) for t in ideal.names()]
        unlike = first_unlike_word("name", named, memory, names, book)
    return unlike


def first_misplaced(ideal, memory, book):
    uses = {}
    for pair in book:
        for a in addresses_of(ideal, pair):
            uses[a] = uses.get(a, 0) + 1
    for pair in book:
        for a in addresses_of(ideal, pair):
            if not 0 <= a < memory.size() or uses[a] > 1:
                return ("address", pair[0])
    return None


def addresses_of(ideal, pair):
    return [pair[1] + i for i in range(words_of(len(ideal.fields_of(pair[0]))))]


def first_headless(ideal, memory, book):
    for pair in book:
        if memory.at(pair[1]) != ("head", pair[0], len(ideal.fields_of(pair[0]))):
            return ("head", pair[0])
    return None


def first_unlike_field(ideal, memory, book):
    stands = dict(book)
    for pair in book:
        for k, value in enumerate(ideal.fields_of(pair[0])):
            if not is_like(value, memory, memory.at(pair[1] + 1 + k), stands):
                return ("field", pair[0], k)
    return None


def first_unlike_word(kind, told, memory, words, book):
    stands = dict(book)
    for i, value in enumerate(told):
        if not is_like(value, memory, words[i], stands):
            return (kind, i)
    return None


def is_like(value, memory, word, stands):
    if kind_of(value) != "thing":
        return word == value
    return kind_of(word) == "at" and place_met(memory, word[1]) == stands[value[1]]


def place_met(memory, a):
    try:
        return resolved(memory, a)
    except BadAddress:
        return None
