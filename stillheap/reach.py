"""What is reached in a view, and by which ways."""

from stillheap.errors import BadView
from stillheap.values import kind_of


def view_of(hall):
    fields = {}
    for t in hall.things():
        fields[t] = [thing_in(value) for value in hall.fields_of(t)]
    return ([thing_in(value) for value in hall.hands()], fields)


def reached(view):
    look_at_view(view)
    return sorted(last_steps(view))


def way_to(view, thing):
    look_at_view(view)
    look_at_thing(view, thing)
    steps = last_steps(view)
    if thing not in steps:
        return None
    places = []
    step = steps[thing]
    while step[0] is not None:
        places.append(step[1])
        step = steps[step[0]]
    return (step[1], tuple(reversed(places)))


def led_to(view, things):
    look_at_view(view)
    for thing in things:
        look_at_thing(view, thing)
    return sorted(last_steps((things, view[1])))


def thing_in(value):
    return value[1] if kind_of(value) == "thing" else None


def look_at_view(view):
    fields = view[1]
    look_at_told(view[0], fields)
    for t in fields:
        if t < 0:
            raise BadView(f"{t} is no thing's number")
        look_at_told(fields[t], fields)


def look_at_told(told, fields):
    for t in told:
        if t is not None and t not in fields:
            raise BadView(f"the view tells {t} and has it not")


def look_at_thing(view, thing):
    if thing not in view[1]:
        raise BadView(f"the view has no thing {thing}")


# For each reached thing the pair (from, place) with which its told way ends.
# Things are met by fewer places first and, among as many, by the lesser way:
# so the first step that meets a thing is that of its told way, and the dict
# has the things in the order of their told ways.
def last_steps(view):
    steps = {}
    for place, thing in enumerate(view[0]):
        if thing is not None and thing not in steps:
            steps[thing] = (None, place)
    met = list(steps)
    done = 0
    while done < len(met):
        for place, thing in enumerate(view[1][met[done]]):
            if thing is not None and thing not in steps:
                steps[thing] = (met[done], place)
                met.append(thing)
        done += 1
    return steps
