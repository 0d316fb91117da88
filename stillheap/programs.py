"""Programs read from texts, and written."""

from stillheap.errors import BadText

MOST_ROWS = 200
MOST_FIGURES = 61
MOST_LETTERS = 8
FIGURES = "0123456789"
LETTERS = "abcdefghijklmnopqrstuvwxyz"

# What each word's parts are: a hand, weak name, field or count is written as
# a count, and which of them it is is not looked at in reading.
FORMS = {
    "make": ("count", "count"),
    "load": ("count", "count", "count"),
    "store": ("count", "count", "count"),
    "copy": ("count", "count"),
    "drop": ("count",),
    "number": ("count", "number"),
    "name": ("count", "count"),
    "read": ("count", "count"),
    "word": ("count", "count"),
    "take": ("count",),
    "held": ("count",),
    "add": ("count", "count"),
    "less": ("count", "count"),
    "mark": ("mark",),
    "go": ("mark",),
    "same": ("count", "count", "mark"),
    "below": ("count", "count", "mark"),
    "thing": ("count", "mark"),
    "say": ("count",),
    "stop": (),
}


def read_program(text):
    rows = [row_read(line) for line in text.split("\n")]
    marks = marks_put(rows)
    ahead = {}
    for at, row in enumerate(rows):
        if at >= MOST_ROWS or row is None or not has_right_mark(row, marks, ahead):
            number = at + 1
            raise BadText(f"row {number} is no row of this program", number)
        if row[0] == "mark":
            ahead[row[1]] = True
    return tuple(rows)


def program_text(program):
    return "\n".join([row_text(row) for row in program])


def row_text(row):
    return " ".join([str(part) for part in row])


def row_read(line):
    words = line.split(" ")
    if words[0] not in FORMS:
        return None
    form = FORMS[words[0]]
    parts = words[1:]
    if len(parts) != len(form):
        return None
    if not all([is_written(part, kind) for part, kind in zip(parts, form)]):
        return None
    return tuple([words[0]] + [part_read(part, kind) for part, kind in zip(parts, form)])


def is_written(part, kind):
    if kind == "mark":
        return len(part) <= MOST_LETTERS and is_made_of(part, LETTERS)
    if kind == "number" and part.startswith("-"):
        return part != "-0" and is_count(part[1:])
    return is_count(part)


def is_count(part):
    if len(part) > MOST_FIGURES or not is_made_of(part, FIGURES):
        return False
    return part == "0" or part[0] != "0"


def is_made_of(part, signs):
    return part != "" and all([sign in signs for sign in part])


def part_read(part, kind):
    return part if kind == "mark" else int(part)


# A row beyond the 200th is refused itself, but the mark that it has is not one
# that no row has: the rows ahead that tell it are right.
def marks_put(rows):
    marks = {}
    for row in rows:
        if row is not None and row[0] == "mark":
            marks[row[1]] = True
    return marks


def has_right_mark(row, marks, ahead):
    if row[0] == "mark":
        return row[1] not in ahead
    return "mark" not in FORMS[row[0]] or row[-1] in marks
