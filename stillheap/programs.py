"""Programs read from texts, and written."""

from stillheap.errors import BadText
from stillheap.rows import row_read, row_text

MOST_ROWS = 200

# What each word's parts are: a hand, weak name, field or count is written as
# a count, and which of them it is is not looked at in reading.
FORMS = {
    "make": ("count", "count"),
    "load": ("count", "count", "count"),
    "store": ("count", "count", "count"),
    "copy": ("count", "count"),
    "drop": ("count",),
    "number": ("count", "number"),
    "name": ("count", "count"),
    "read": ("count", "count"),
    "word": ("count", "count"),
    "take": ("count",),
    "held": ("count",),
    "add": ("count", "count"),
    "less": ("count", "count"),
    "mark": ("mark",),
    "go": ("mark",),
    "same": ("count", "count", "mark"),
    "below": ("count", "count", "mark"),
    "thing": ("count", "mark"),
    "say": ("count",),
    "stop": (),
}


def read_program(text):
    rows = [program_row(line) for line in text.split("\n")]
    marks = marks_put(rows)
    ahead = {}
    for at, row in enumerate(rows):
        if at >= MOST_ROWS or row is None or not has_right_mark(row, marks, ahead):
            number = at + 1
            raise BadText(f"row {number} is no row of this program", number)
        if row[0] == "mark":
            ahead[row[1]] = True
    return tuple(rows)


def program_text(program):
    return "\n".join([row_text(row) for row in program])


def program_row(line):
    words = line.split(" ")
    return row_read(words, FORMS[words[0]]) if words[0] in FORMS else None


# A row beyond the 200th is refused itself, but the mark that it has is not one
# that no row has: the rows ahead that tell it are right.
def marks_put(rows):
    marks = {}
    for row in rows:
        if row is not None and row[0] == "mark":
            marks[row[1]] = True
    return marks


def has_right_mark(row, marks, ahead):
    if row[0] == "mark":
        return row[1] not in ahead
    return "mark" not in FORMS[row[0]] or row[-1] in marks
