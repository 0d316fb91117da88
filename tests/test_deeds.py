import unittest

from stillheap.deeds import log_text, read_log
from stillheap.errors import BadLog
from stillheap.marker import Marker
from stillheap.moving import Mover

GREAT = 10 ** 59 + 7
# One row of each kind, and its text.
ROWS = (
    (("room", 40, True), "room 40 young"),
    (("room", 0, False), "room 0 old"),
    (("load", 1, 2, 3), "load 1 2 3"),
    (("store", 4, 5, 6), "store 4 5 6"),
    (("copy", 7, 0), "copy 7 0"),
    (("drop", 3), "drop 3"),
    (("number", 1, -20), "number 1 -20"),
    (("name", 2, 1), "name 2 1"),
    (("read", 1, 2), "read 1 2"),
    (("word", 0, 9), "word 0 9"),
    (("make", 0, 6, 12, 33), "make 0 6 12 33"),
    (("small",), "small"),
    (("begin",), "begin"),
    (("shade", 8), "shade 8"),
    (("look", 8, 0), "look 8 0"),
    (("move", 8, 50), "move 8 50"),
    (("end",), "end"),
)
BAD_NUMBERS = (
    "01", "00", "-0", "-00", "-01", "+1", "--1", "-", "1-", "1_0", "1.0", "1e1", "0x1", "a", "", "9" * 62,
    "-" + "9" * 62, "1" + "0" * 61, "\u0661", "\u00b2", "-\u0661", "\uff11", "None", "True", "young", "old",
)


def row_at(at, part):
    """A text of which row 3 has this part at that place behind its word."""
    parts = ["1", "2", "3", "4"]
    parts[at] = part
    return "room 9 old\nsmall\n" + " ".join(["make"] + parts) + "\nend"


class TextTest(unittest.TestCase):
    def test_each_kind_of_row(self):
        for row, text in ROWS:
            self.assertEqual(log_text([row]), text)
            self.assertEqual(read_log(text), [row])
            self.assertIsInstance(read_log(text)[0], tuple)
        log = [row for row, text in ROWS]
        text = "\n".join(text for row, text in ROWS)
        self.assertEqual(log_text(log), text)
        self.assertEqual(read_log(text), log)
        self.assertEqual(log, [row for row, text in ROWS])

    def test_ages_are_read_as_true_and_false(self):
        self.assertIs(read_log("room 7 young")[0][2], True)
        self.assertIs(read_log("room 7 old")[0][2], False)
        for row in read_log("room 1 old\nmake 0 1 0 1")[1:]:
            self.assertEqual([part for part in row if isinstance(part, bool)], [])

    def test_numbers_in_each_part(self):
        for x in (0, 1, -1, 10, -10, GREAT, -GREAT, 10 ** 60, -10 ** 60, 10 ** 61 - 1):
            for row, text in ROWS:
                for at in range(1, len(row)):
                    if not isinstance(row[at], bool):
                        log = [("room", 3, True), row[:at] + (x,) + row[at + 1:], ("end",)]
                        parts = text.split(" ")
                        parts[at] = str(x)
                        self.assertEqual(log_text(log), "room 3 young\n" + " ".join(parts) + "\nend")
                        self.assertEqual(read_log(log_text(log)), log)

    def test_logs_of_halls(self):
        for hall in (Mover(7, 40), Marker(7, 40), Marker(0, 40)):
            for h in range(5):
                hall.make(h, 3)
                hall.store(h, 1, max(0, h - 1))
            hall.number(0, -GREAT)
            hall.begin()
            hall.name(3, 4)
            hall.step(3)
            hall.read(1, 3)
            hall.word(1, -4)
            hall.step(1000)
            self.assertEqual(read_log(log_text(hall.log())), hall.log())

    def test_what_is_told_is_the_askers_own(self):
        text = "room 1 old\nsmall"
        read_log(text).append(("end",))
        self.assertEqual(read_log(text), [("room", 1, False), ("small",)])


class RefusedTest(unittest.TestCase):
    def assert_refused(self, row, text):
        with self.assertRaises(BadLog, msg=text) as taken:
            read_log(text)
        self.assertEqual(taken.exception.row, row, text)

    def test_empty_rows(self):
        self.assert_refused(1, "")
        self.assert_refused(1, "\n")
        self.assert_refused(1, "\nroom 1 old")
        self.assert_refused(2, "room 1 old\n")
        self.assert_refused(2, "room 1 old\n\nend")
        self.assert_refused(3, "room 1 old\nend\n\n")

    def test_words_that_are_none(self):
        for row in ("what", "Room 1 old", "END", "end0", "take", "take 0", "held 1", "step 1", "mark a", "say 0", "stop", "young"):
            self.assert_refused(1, row)
            self.assert_refused(2, "room 1 old\n" + row + "\nend")

    def test_a_part_more_or_fewer(self):
        for row, text in ROWS:
            self.assert_refused(2, "small\n" + text + " 0")
            self.assert_refused(2, "small\n" + text + " old")
            if len(row) > 1:
                self.assert_refused(2, "small\n" + text.rpartition(" ")[0])

    def test_blanks(self):
        for row, text in ROWS:
            self.assert_refused(2, "small\n " + text)
            self.assert_refused(2, "small\n" + text + " ")
            self.assert_refused(2, "small\n" + text + "\r")
            self.assert_refused(2, "small\n" + text + "\t")
            if len(row) > 1:
                self.assert_refused(2, "small\n" + text.replace(" ", "  ", 1))
                self.assert_refused(2, "small\n" + text.replace(" ", "\t", 1))
        self.assert_refused(1, " ")

    def test_numbers_written_otherwise(self):
        for part in BAD_NUMBERS:
            for at in range(4):
                self.assert_refused(3, row_at(at, part))
            self.assert_refused(1, "room " + part + " old")
            self.assert_refused(1, "number 0 " + part)

    def test_a_number_in_an_ages_stead(self):
        for part in ("0", "1", "-1", "True", "False", "Young", "OLD", "", "younger", "youn"):
            self.assert_refused(1, "room 5 " + part)

    def test_the_first_of_several(self):
        self.assert_refused(2, "room 1 old\nwhat\n\nend 0")
        self.assert_refused(3, "room 1 old\nend\nend 0\nwhat")


if __name__ == "__main__":
    unittest.main()
