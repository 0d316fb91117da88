"""Rows of texts: a word and its parts, one blank between two."""

MOST_FIGURES = 61
MOST_LETTERS = 8
FIGURES = "0123456789"
LETTERS = "abcdefghijklmnopqrstuvwxyz"


# The row that these words write, None where a part is not of its kind: the
# form has a kind for each part, and which value a number tells is not looked
# at in reading.
def row_read(words, form):
    parts = words[1:]
    if len(parts) != len(form):
        return None
    if not all([is_written(part, kind) for part, kind in zip(parts, form)]):
        return None
    return tuple([words[0]] + [part_read(part, kind) for part, kind in zip(parts, form)])


def is_written(part, kind):
    if kind == "mark":
        return len(part) <= MOST_LETTERS and is_made_of(part, LETTERS)
    if kind == "age":
        return part in ("young", "old")
    if kind == "number" and part.startswith("-"):
        return part != "-0" and is_count(part[1:])
    return is_count(part)


def is_count(part):
    if len(part) > MOST_FIGURES or not is_made_of(part, FIGURES):
        return False
    return part == "0" or part[0] != "0"


def is_made_of(part, signs):
    return part != "" and all([sign in signs for sign in part])


def part_read(part, kind):
    if kind == "mark":
        return part
    return part == "young" if kind == "age" else int(part)


def row_text(row):
    return " ".join([part_text(part) for part in row])


def part_text(part):
    if part is True:
        return "young"
    return "old" if part is False else str(part)
