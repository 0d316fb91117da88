"""Reach papers, closed lists, and what is held only by one thing."""

from stillheap.reach import last_steps, look_at_thing, look_at_view


def reach_paper(view):
    look_at_view(view)
    steps = last_steps(view)
    return [(thing, steps[thing][0], steps[thing][1]) for thing in steps]


def is_closed(view, things):
    look_at_view(view)
    return closed_in(view, things)


def paper_judged(view, triples):
    look_at_view(view)
    ahead = {}
    for triple in triples:
        if not is_step(view, ahead, triple):
            return False
        ahead[triple[0]] = True
    return closed_in(view, sorted(ahead))


def only_by(view, thing):
    look_at_view(view)
    look_at_thing(view, thing)
    bare = dict(view[1])
    bare[thing] = []
    without = last_steps((view[0], bare))
    return sorted([t for t in last_steps(view) if t not in without])


def closed_in(view, things):
    fields = view[1]
    inside = {}
    last = None
    for t in things:
        if t not in fields or (last is not None and t <= last):
            return False
        inside[t] = True
        last = t
    return tells_within(view[0], inside) and all([tells_within(fields[t], inside) for t in things])


def tells_within(told, inside):
    return all([t is None or t in inside for t in told])


def is_step(view, ahead, triple):
    thing = triple[0]
    origin = triple[1]
    if thing is None or thing in ahead:
        return False
    if origin is None:
        return tells_at(view[0], triple[2], thing)
    return origin in ahead and tells_at(view[1][origin], triple[2], thing)


# A place below 0 is none here, though a list would answer to it.
def tells_at(told, place, thing):
    return place is not None and 0 <= place < len(told) and told[place] == thing
