"""Traces of woven runs: what each row said, and how many words were held behind it."""

from stillheap.weaving import Weaving


def traced(program, hall, work, most):
    weaving = Weaving(program, hall, work)
    rows = []
    while weaving.at() is not None and len(rows) < most:
        place = weaving.at()
        said_before = len(weaving.told())
        weaving.step()
        said = weaving.told()[said_before:]
        rows.append((place, said[0] if len(said) > 0 else None, hall.held()))
    return rows
