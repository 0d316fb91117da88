"""Things laid in a memory, their fields, forwards, and walks over them."""

from stillheap.errors import BadAddress
from stillheap.values import kind_of


def lay(memory, a, t, values):
    look_at_room(memory, a, len(values))
    memory.put(a, ("head", t, len(values)))
    for k, value in enumerate(values):
        memory.put(a + 1 + k, value)


def thing_at(memory, a):
    fields = fields_at(memory, a)
    return (memory.at(a)[1], [memory.at(a + 1 + k) for k in range(fields)])


def resolved(memory, a):
    word = memory.at(a)
    while kind_of(word) == "moved":
        a = word[1]
        word = memory.at(a)
    return a


def field_at(memory, a, k):
    return memory.at(field_address(memory, a, k))


def put_field(memory, a, k, word):
    memory.put(field_address(memory, a, k), word)


def move(memory, a, b):
    thing = thing_at(memory, a)
    lay(memory, b, thing[0], thing[1])
    memory.put(a, ("moved", b, len(thing[1])))


def walked(memory, first, behind):
    firsts = []
    a = first
    while a < behind:
        firsts.append(a)
        a += fields_told(memory, a, ("head", "moved")) + 1
        if a > behind:
            raise BadAddress(f"the last thing goes beyond {behind}")
    return firsts


def fields_at(memory, a):
    return fields_told(memory, a, ("head",))


# A count below 0 makes no thing; a walk would not come forward by it.
def fields_told(memory, a, kinds):
    word = memory.at(a)
    if kind_of(word) not in kinds or word[2] < 0:
        raise BadAddress(f"no thing stands at {a}")
    look_at_room(memory, a, word[2])
    return word[2]


def field_address(memory, a, k):
    if not 0 <= k < fields_at(memory, a):
        raise BadAddress(f"the thing at {a} has no field {k}")
    return a + 1 + k


def look_at_room(memory, a, fields):
    if a < 0 or a + fields >= memory.size():
        raise BadAddress(f"the memory lacks room for {fields} fields at {a}")
