"""Copying at once: all that roots lead to, from one memory into another."""

from stillheap.errors import BadAddress, NoRoom
from stillheap.layout import lay, thing_at
from stillheap.values import kind_of


def copied(source, target, first, roots):
    things = things_met(source, roots)
    words = words_among(things)
    if words > 0 and first + words > target.size():
        raise NoRoom(f"the second memory lacks room for {words} words from {first} on")
    places = places_from(first, things)
    for a in things:
        fields = things[a][1]
        lay(target, places[a], things[a][0], [told_anew(word, places) for word in fields])
        source.put(a, ("moved", places[a], len(fields)))
    return ([told_anew(word, places) for word in roots], [(a, places[a]) for a in places])


def copied_words(source, roots):
    return words_among(things_met(source, roots))


# The things by their addresses, in the order in which they are met. All are
# met ahead of any writing, so that what is refused has changed nothing.
def things_met(source, roots):
    things = {}
    words = list(roots)
    done = 0
    while done < len(words):
        a = address_told(words[done])
        if a is not None and a not in things:
            things[a] = thing_at(source, a)
            words.extend(things[a][1])
        done += 1
    return things


def address_told(word):
    if kind_of(word) in ("none", "number"):
        return None
    if kind_of(word) != "at":
        raise BadAddress(f"{word} tells no thing's address")
    return word[1]


def words_among(things):
    return sum([len(things[a][1]) + 1 for a in things])


def places_from(first, things):
    places = {}
    place = first
    for a in things:
        places[a] = place
        place += len(things[a][1]) + 1
    return places


def told_anew(word, places):
    a = address_told(word)
    return word if a is None else ("at", places[a])
