import unittest

from stillheap.errors import BadText
from stillheap.programs import program_text, read_program

# One row of each kind, and the row that is read of it.
ROWS = (
    ("make 0 6", ("make", 0, 6)),
    ("load 1 2 3", ("load", 1, 2, 3)),
    ("store 4 5 6", ("store", 4, 5, 6)),
    ("copy 7 0", ("copy", 7, 0)),
    ("drop 3", ("drop", 3)),
    ("number 1 -20", ("number", 1, -20)),
    ("name 2 1", ("name", 2, 1)),
    ("read 1 2", ("read", 1, 2)),
    ("word 0 1", ("word", 0, 1)),
    ("take 5", ("take", 5)),
    ("held 6", ("held", 6)),
    ("add 1 2", ("add", 1, 2)),
    ("less 2 1", ("less", 2, 1)),
    ("mark again", ("mark", "again")),
    ("go again", ("go", "again")),
    ("same 0 1 again", ("same", 0, 1, "again")),
    ("below 1 0 again", ("below", 1, 0, "again")),
    ("thing 4 again", ("thing", 4, "again")),
    ("say 0", ("say", 0)),
    ("stop", ("stop",)),
)
FIGURES = 10 ** 60


class ReadTest(unittest.TestCase):
    def assert_refused(self, row, text):
        with self.assertRaises(BadText, msg=text) as taken:
            read_program(text)
        self.assertEqual(taken.exception.row, row, text)

    def test_each_kind_of_row(self):
        text = "\n".join(row for row, read in ROWS)
        program = read_program(text)
        self.assertEqual(program, tuple(read for row, read in ROWS))
        self.assertIsInstance(program, tuple)
        self.assertEqual(program_text(program), text)

    def test_each_kind_of_row_with_a_part_too_few_or_too_many(self):
        for row, read in ROWS:
            self.assert_refused(2, "mark again\n" + row + " 0")
            self.assert_refused(2, "mark again\n" + row + " again")
            if len(read) > 1:
                self.assert_refused(2, "mark again\n" + row.rpartition(" ")[0])

    def test_each_part_that_is_not_of_its_sort(self):
        for row, read in ROWS:
            for at in range(1, len(read)):
                parts = row.split(" ")
                parts[at] = "0" if isinstance(read[at], str) else "again"
                self.assert_refused(2, "mark again\n" + " ".join(parts))

    def test_one_row(self):
        self.assertEqual(read_program("stop"), (("stop",),))

    def test_two_hundred_rows_and_one_more(self):
        text = "\n".join(["drop 0"] * 200)
        self.assertEqual(read_program(text), (("drop", 0),) * 200)
        self.assertEqual(program_text(read_program(text)), text)
        self.assert_refused(201, text + "\ndrop 0")
        self.assert_refused(201, text + "\ndrop 0\nwhat")
        self.assert_refused(201, text + "\n")
        self.assert_refused(200, "\n".join(["drop 0"] * 199 + ["what", "drop 0"]))

    def test_a_mark_in_a_row_beyond_is_one_that_a_row_has(self):
        self.assert_refused(201, "\n".join(["go a"] * 200 + ["mark a"]))
        self.assert_refused(1, "\n".join(["go a"] * 200 + ["mark b"]))

    def test_empty_rows_and_blanks(self):
        self.assert_refused(1, "")
        self.assert_refused(1, "\n")
        self.assert_refused(1, "\nstop")
        self.assert_refused(2, "stop\n")
        self.assert_refused(2, "drop 0\n\nstop")
        for row in (" drop 0", "drop 0 ", "drop  0", "drop\t0", "drop 0\t", "drop 0\r", " ", "stop ", " stop"):
            self.assert_refused(1, row)
            self.assert_refused(2, "stop\n" + row + "\nstop")

    def test_other_parters_of_rows_part_none(self):
        for parter in ("\r", "\r\n", "\x0b", "\x0c", "\x85", "\u2028"):
            self.assert_refused(1, "stop" + parter + "stop")

    def test_words_that_are_none(self):
        for row in ("what", "Drop 0", "DROP 0", "drop0", "0 drop", "step 1", "small", "begin", "end", "take", "make"):
            self.assert_refused(1, row)

    def test_counts(self):
        for part in ("0", "1", "10", "8", "99", str(FIGURES), "9" * 61):
            self.assertEqual(read_program("drop " + part), (("drop", int(part)),))
            self.assertEqual(read_program("make 0 " + part), (("make", 0, int(part)),))
        for part in (
            "01", "00", "-0", "-1", "+1", "--1", "-", "1_0", "1.0", "1e1", "0x1", "9" * 62, "1" + "0" * 61,
            "\u0661", "\u00b2", "a", "",
        ):
            self.assert_refused(1, "drop " + part)
            self.assert_refused(1, "load 0 0 " + part)
            self.assert_refused(1, "store 0 " + part + " 0")
            self.assert_refused(1, "number " + part + " 0")

    def test_numbers(self):
        for part in ("0", "1", "-1", "-10", str(FIGURES), "-" + str(FIGURES), "9" * 61, "-" + "9" * 61):
            self.assertEqual(read_program("number 0 " + part), (("number", 0, int(part)),))
            self.assertEqual(program_text((("number", 0, int(part)),)), "number 0 " + part)
        for part in (
            "01", "-01", "-0", "-00", "+1", "--1", "-", "- 1", "1-", "9" * 62, "-" + "9" * 62, "\u0661",
            "-\u0661", "1_0", "-a", "",
        ):
            self.assert_refused(1, "number 0 " + part)

    def test_marks(self):
        for mark in ("a", "z", "abcdefgh", "zzzzzzzz", "mark", "stop"):
            self.assertEqual(read_program("mark " + mark), (("mark", mark),))
        for mark in ("abcdefghi", "A", "aB", "a1", "1", "a_", "a-b", "", "\u00e4", "\u0131"):
            self.assert_refused(1, "mark " + mark)
            self.assert_refused(1, "go " + mark)

    def test_marks_put_twice(self):
        self.assert_refused(2, "mark a\nmark a")
        self.assert_refused(3, "mark a\nmark b\nmark a\nmark b")
        self.assert_refused(4, "mark a\ngo a\nmark b\nmark b")

    def test_marks_that_no_row_has(self):
        for row in ("go b", "same 0 0 b", "below 0 0 b", "thing 0 b"):
            self.assert_refused(2, "mark a\n" + row)
            self.assertEqual(len(read_program(row + "\nmark b")), 2)
        self.assert_refused(1, "go a\nmark a ")
        self.assert_refused(1, "go a\nmark  a")

    def test_the_first_of_several_rows(self):
        self.assert_refused(2, "stop\ngo b\nwhat\nmark a\nmark a")
        self.assert_refused(2, "stop\nwhat\ngo b\nmark a\nmark a")
        self.assert_refused(2, "mark a\nmark a\nwhat\ngo b")
        self.assert_refused(3, "go a\nmark a\nmark a\ngo b")


class TextTest(unittest.TestCase):
    def test_what_is_written_is_read_back(self):
        program = tuple(read for row, read in ROWS) * 1
        self.assertEqual(read_program(program_text(program)), program)

    def test_written_alike_again(self):
        program = read_program("mark a\nnumber 0 -7\ngo a")
        self.assertEqual(program_text(program), "mark a\nnumber 0 -7\ngo a")
        self.assertEqual(program, (("mark", "a"), ("number", 0, -7), ("go", "a")))


if __name__ == "__main__":
    unittest.main()
