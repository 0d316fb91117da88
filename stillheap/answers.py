"""Pages answered: a hall, its work and a program as one text, and what comes of them as another."""

from stillheap.errors import BadCount, BadText
from stillheap.marker import Marker
from stillheap.moving import Mover
from stillheap.programs import read_program
from stillheap.rows import row_read, row_text
from stillheap.weaving import look_at_work, woven

MOST_ROWS_DONE = 2000
ROWS_AHEAD = 2


def answered(text):
    rows = text.split("\n")
    hall = hall_of(rows[0])
    # A row that lacks is as an empty one: neither is right.
    work = work_of(rows[1] if len(rows) > 1 else "")
    program = program_of(rows[ROWS_AHEAD:])
    run = woven(program, hall, work, MOST_ROWS_DONE)
    said = [row_text(told) for told in run[0]]
    return "\n".join(said + [end_text(run[1], run[2]), turns_text(run[3])])


def hall_of(line):
    words = line.split(" ")
    row = row_read(words, ("count", "count"))
    if words[0] not in ("mover", "marker") or row is None:
        refuse_row(1)
    try:
        return Mover(row[1], row[2]) if row[0] == "mover" else Marker(row[1], row[2])
    except BadCount:
        refuse_row(1)


def work_of(line):
    words = line.split(" ")
    row = row_read(words, ["number"] * (len(words) - 1))
    if words[0] != "work" or row is None:
        refuse_row(2)
    try:
        look_at_work(row[1:])
    except BadCount:
        refuse_row(2)
    return list(row[1:])


def program_of(rows):
    try:
        return read_program("\n".join(rows))
    except BadText as e:
        refuse_row(ROWS_AHEAD + e.row)


def refuse_row(number):
    raise BadText(f"row {number} is no row of a page", number)


def end_text(fault, steps):
    if fault is not None:
        return f"fault {fault}"
    return "going" if steps >= MOST_ROWS_DONE else "stopped"


def turns_text(turns):
    return " ".join(["turns"] + [row_text(turn) for turn in turns])
