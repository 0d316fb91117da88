"""What the tests share: a heap's whole standing, and refusals as names."""

from stillheap.errors import HeapError
from stillheap.layout import lay
from stillheap.memory import Memory


def refusal(call, *parts):
    """The name of the refusal's class, or None where nothing is refused."""
    try:
        call(*parts)
    except HeapError as error:
        return error.called()
    return None


def all_told(heap):
    """All that an ideal heap tells to witnesses and askers."""
    things = heap.things()
    return {
        "hands": heap.hands(),
        "names": heap.names(),
        "things": things,
        "fields": [heap.fields_of(t) for t in things],
        "old": [heap.is_old(t) for t in things],
        "words": [heap.word_of(t) for t in things],
        "doomed": heap.doomed(),
        "said": heap.said(),
        "made": heap.made(),
        "held": heap.held(),
        "round": heap.round_on(),
        "kinds": [heap.kind(h) for h in range(8)],
    }


def words(memory):
    """All words of a memory, in order."""
    return [memory.at(a) for a in range(memory.size())]


def memory_of(given):
    """A memory of just these words."""
    memory = Memory(len(given))
    for a, word in enumerate(given):
        memory.put(a, word)
    return memory


def laid_out(size, things):
    """A memory with things, each told as (address, number, fields' words)."""
    memory = Memory(size)
    for a, t, values in things:
        lay(memory, a, t, values)
    return memory


def thing_numbers(values):
    return [value[1] for value in values if value is not None and value[0] == "thing"]


def led_by(starts, nexts):
    """All to which the starts lead, by whole passes until nothing is added."""
    found = set(starts)
    while True:
        more = {u for t in found for u in nexts(t)} - found
        if not more:
            return found
        found |= more


def dealt_view(dealer):
    """A small view with gaps in the numbers, rings and things that nothing leads to."""
    things = sorted(dealer.sample(range(20), dealer.randrange(1, 9)))
    told = things + [None] * dealer.randrange(1, 6)
    fields = {t: [dealer.choice(told) for _ in range(dealer.randrange(4))] for t in things}
    return ([dealer.choice(told) for _ in range(dealer.randrange(4))], fields)


def all_ways(view, most):
    """All ways of up to so many places: a list of pairs (thing, way)."""
    ways = [(t, (r, ())) for r, t in enumerate(view[0]) if t is not None]
    found = list(ways)
    for _ in range(most):
        ways = [
            (u, (way[0], way[1] + (k,)))
            for t, way in ways for k, u in enumerate(view[1][t]) if u is not None
        ]
        found.extend(ways)
    return found


def least_ways(view):
    """The told way of each reached thing, picked from all ways there are."""
    least = {}
    for t, way in all_ways(view, len(view[1])):
        key = (len(way[1]), way)
        if t not in least or key < least[t]:
            least[t] = key
    return {t: least[t][1] for t in least}


NO_VIEWS = (
    ([0], {}),
    ([None, 1], {0: []}),
    ([-1], {0: []}),
    ([], {0: [1]}),
    ([0], {0: [None, 0, 2], 1: []}),
    ([0], {0: [], 3: [4]}),
    ([0], {0: [-1]}),
    ([-1], {-1: []}),
    ([], {-1: []}),
    ([0], {0: [], -2: []}),
)
