"""Logs as texts: a row for each small deed of a program or a collector."""

from stillheap.errors import BadLog
from stillheap.rows import row_read, row_text

# What each word's parts are; an age tells whether made things are young.
FORMS = {
    "room": ("number", "age"),
    "load": ("number", "number", "number"),
    "store": ("number", "number", "number"),
    "copy": ("number", "number"),
    "drop": ("number",),
    "number": ("number", "number"),
    "name": ("number", "number"),
    "read": ("number", "number"),
    "word": ("number", "number"),
    "make": ("number", "number", "number", "number"),
    "small": (),
    "begin": (),
    "shade": ("number",),
    "look": ("number", "number"),
    "move": ("number", "number"),
    "end": (),
}


def log_text(log):
    return "\n".join([row_text(row) for row in log])


def read_log(text):
    log = []
    for line in text.split("\n"):
        row = log_row(line)
        if row is None:
            number = len(log) + 1
            raise BadLog(f"row {number} is no row of a log", number)
        log.append(row)
    return log


def log_row(line):
    words = line.split(" ")
    return row_read(words, FORMS[words[0]]) if words[0] in FORMS else None


# Of any tuple of texts, numbers, True and False.
def is_log_row(row):
    if len(row) == 0 or row[0] not in FORMS:
        return False
    form = FORMS[row[0]]
    parts = row[1:]
    return len(parts) == len(form) and all([is_part(part, kind) for part, kind in zip(parts, form)])


def is_part(part, kind):
    if kind == "age":
        return isinstance(part, bool)
    return isinstance(part, int) and not isinstance(part, bool)
