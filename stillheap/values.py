"""Values as data, and the bounds of all that is handed in to a hall."""

from stillheap.errors import BadCount, BadField, BadHand, BadName

HANDS = 8
WEAK_NAMES = 8
MOST_FIELDS = 6
LEAST_ROOM = 7
MOST_YOUNG = 64
MOST_LIMIT = 400


def number_value(x):
    look_at_number(x)
    return ("number", x)


def thing_value(t):
    if t < 0:
        raise BadCount(f"{t} is no number of making")
    return ("thing", t)


def kind_of(value):
    return "none" if value is None else value[0]


def words_of(fields):
    if not 0 <= fields <= MOST_FIELDS:
        raise BadCount(f"{fields} is no count of fields")
    return fields + 1


def look_at_number(x):
    if abs(x) > 10 ** 60:
        raise BadCount(f"{x} is beyond the bounds of values")


def look_at_hand(h):
    if not 0 <= h < HANDS:
        raise BadHand(f"{h} is no hand")


def look_at_name(w):
    if not 0 <= w < WEAK_NAMES:
        raise BadName(f"{w} is no weak name")


def look_at_field(k, fields):
    if not 0 <= k < fields:
        raise BadField(f"a thing of {fields} fields has no field {k}")


def look_at_limits(young, limit):
    if young != 0 and not LEAST_ROOM <= young <= MOST_YOUNG:
        raise BadCount(f"{young} words are no young room")
    if not LEAST_ROOM <= limit <= MOST_LIMIT:
        raise BadCount(f"{limit} words are no limit")
