import random
import unittest

from stillheap.answers import answered
from stillheap.errors import BadText
from stillheap.marker import Marker
from stillheap.moving import Mover
from stillheap.programs import program_text
from stillheap.weaving import woven
from tests.helpers import dealt_program

BOTH = ("mover", "marker")


def page(first, work, program):
    return first + "\n" + work + "\n" + program


class AnsweredTest(unittest.TestCase):
    def test_says_of_each_sort(self):
        for word in BOTH:
            self.assertEqual(answered(page(f"{word} 7 40", "work", "number 0 -5\nsay 0\nsay 1\nmake 2 4\nsay 2\nmake 2 0\nsay 2")), (
                "number -5\nnone\nthing 4\nthing 0\nstopped\nturns"))

    def test_nothing_said(self):
        for word in BOTH:
            for program in ("stop", "drop 0", "stop\nsay 0", "go a\nsay 0\nmark a"):
                self.assertEqual(answered(page(f"{word} 0 7", "work", program)), "stopped\nturns")

    def test_great_numbers(self):
        great = 10 ** 60
        for x in (great, -great, 10 ** 59 + 7, 0, -1):
            self.assertEqual(answered(f"mover 0 7\nwork\nnumber 0 {x}\nsay 0"), f"number {x}\nstopped\nturns")

    def test_faults(self):
        for word in BOTH:
            for program, answer in (
                ("say 8", "fault BadHand"), ("number 0 1\nsay 0\nload 0 0 0\nsay 0", "number 1\nfault BadHand"),
                ("make 0 1\nname 8 0", "fault BadName"), ("make 0 1\nload 0 0 1", "fault BadField"), ("make 0 7", "fault BadCount"),
                ("make 0 6\nmake 0 0", "fault NoRoom"), ("number 0 " + "9" * 61, "fault BadCount"),
            ):
                self.assertEqual(answered(page(f"{word} 0 7", "work", program)), answer + "\nturns", program)
            rows = ["number 1 0"]
            for _ in range(13):
                rows += ["make 0 0", "word 0 1"]
            self.assertEqual(answered(page(f"{word} 0 40", "work", "\n".join(rows))), "fault TooManyWords\nturns")

    def test_turns(self):
        for word in BOTH:
            program = "make 0 1\ndrop 1\ndrop 1\ndrop 1\ndrop 1\ndrop 1\ndrop 1"
            self.assertEqual(answered(page(f"{word} 7 40", "work 0 -1 1000 0 1 1", program)), (
                "stopped\nturns 2 small 3 begin 5 end 6 begin"))
            self.assertEqual(answered(page(f"{word} 7 40", "work 0 0 0 0", program)), "stopped\nturns")
            self.assertEqual(answered(page(f"{word} 7 40", "work 0 0 0 0 0 -1 -1 -1", program)), "stopped\nturns 6 small")

    def test_going(self):
        for word in BOTH:
            self.assertEqual(answered(page(f"{word} 0 7", "work", "mark a\ngo a")), "going\nturns")
            said = answered(page(f"{word} 7 7", "work", "mark a\nsay 0\nmake 0 6\ndrop 0\nmake 1 0\ndrop 1\ngo a"))
            self.assertEqual(said.split("\n")[-2:], ["going", "turns"])
            self.assertEqual(said.split("\n")[1:-2], ["none"] * 285)

    def test_two_thousand_rows_just_done(self):
        # Four rows, then three times x rows, then what is put behind.
        head = ["number 0 0", "number 1 1", "number 2 X", "drop 7", "mark b", "add 0 1", "below 0 2 b"]
        for word in BOTH:
            for x, behind, answer in (
                (665, [], "stopped"), (665, ["drop 7"], "going"), (664, ["drop 7"] * 4, "going"), (664, ["drop 7"] * 3, "stopped"),
                (664, ["drop 7"] * 3 + ["stop"], "going"), (664, ["drop 7"] * 3 + ["say 9"], "fault BadHand"),
                (664, ["drop 7"] * 4 + ["say 9"], "going"), (664, ["drop 7"] * 2 + ["stop"], "stopped"), (664, ["drop 7"] * 3 + ["say 0"], "number 664\ngoing"),
            ):
                rows = [row.replace("X", str(x)) for row in head] + behind
                self.assertEqual(answered(page(f"{word} 0 7", "work", "\n".join(rows))), answer + "\nturns", (x, behind))

    def test_two_thousand_numbers(self):
        for word in BOTH:
            said = answered(page(f"{word} 0 7", "work" + " 0" * 1999 + " -1", "mark a\ngo a"))
            self.assertEqual(said, "going\nturns 2000 small")

    def test_what_the_collector_lets_a_program_see(self):
        program = "make 0 0\nnumber 1 5\nword 0 1\nname 0 0\ndrop 0\nread 2 0\nsay 2\ndrop 2\ntake 3\nsay 3"
        for word in BOTH:
            self.assertEqual(answered(page(f"{word} 0 7", "work", program)), "thing 0\nnone\nstopped\nturns")
            self.assertEqual(answered(page(f"{word} 0 7", "work 0 0 0 0 1 1", program)), (
                "thing 0\nnone\nstopped\nturns 5 begin 6 end"))
            self.assertEqual(answered(page(f"{word} 7 7", "work 0 0 0 0 -1", program)), "none\nnumber 5\nstopped\nturns 5 small")
            self.assertEqual(answered(page(f"{word} 0 7", "work 0 0 0 0 0 0 0 1000 1", program)), (
                "thing 0\nnone\nstopped\nturns 8 begin 9 end"))

    def test_dealt_pages(self):
        for seed in range(10):
            dealer = random.Random(seed)
            program = dealt_program(dealer, 100)
            work = [dealer.choice((0, 0, 1, 2, -1, 1000)) for _ in range(300)]
            young, limit = dealer.choice(((0, 60), (7, 40), (64, 400)))
            for word, hall in (("mover", Mover(young, limit)), ("marker", Marker(young, limit))):
                told, fault, steps, turns = woven(program, hall, work, 2000)
                rows = [" ".join(str(part) for part in said) for said in told]
                rows.append("fault " + fault if fault else "going" if steps == 2000 else "stopped")
                rows.append(" ".join(["turns"] + [f"{s} {turn}" for s, turn in turns]))
                text = page(f"{word} {young} {limit}", " ".join(["work"] + [str(x) for x in work]), program_text(program))
                self.assertEqual(answered(text), "\n".join(rows))
                self.assertEqual(answered(text), "\n".join(rows))


class RefusedTest(unittest.TestCase):
    def assert_refused(self, row, text):
        with self.assertRaises(BadText, msg=text) as taken:
            answered(text)
        self.assertEqual(taken.exception.row, row, text)

    def test_first_rows_that_are_none(self):
        for first in ("", "mover", "mover 0", "mover 0 7 0", "mover 0 7 ", " mover 0 7", "mover  0 7", "mover 0  7", "Mover 0 7", "oldmover 7",
                      "ideal 0 7", "marker 0", "markers 0 7", "mover 00 7", "mover 0 07", "mover -0 7", "mover 0 +7", "mover 0 7.0",
                      "mover a 7", "mover 0 \u0667", "mover 0 7\r", "mover\t0 7", "0 7", "work", "mover 0 " + "9" * 62):
            self.assert_refused(1, page(first, "work", "stop"))
            self.assert_refused(1, page(first, "what", "what"))
            self.assert_refused(1, first)

    def test_rooms_and_limits(self):
        for word in BOTH:
            for young, limit in ((0, 7), (7, 7), (64, 400), (0, 400), (64, 7)):
                self.assertEqual(answered(page(f"{word} {young} {limit}", "work", "stop")), "stopped\nturns")
            for young, limit in ((1, 7), (6, 7), (65, 7), (0, 6), (0, 0), (0, 401), (7, 1000), (-7, 7), (7, -7), (0, 10 ** 60), (10 ** 60, 7)):
                self.assert_refused(1, page(f"{word} {young} {limit}", "work", "stop"))

    def test_work_rows_that_are_none(self):
        for work in ("", "works", "work ", " work", "work  1", "work 1 ", "work 1  2", "Work", "work 01", "work -0", "work +1", "work 00", "work a",
                     "work -2", "work 1001", "work 0 0 1001 0", "work -1001", "work 1.0", "work --1", "work -01", "work 1\t2", "work 1\r",
                     "work" + " 0" * 2001, "work" + " 1" * 1999 + " 1001", "work 10" + "0" * 60, "work \u0661", "stop", "0"):
            self.assert_refused(2, page("marker 0 7", work, "stop"))
            self.assert_refused(2, page("mover 0 7", work, "what"))
            self.assert_refused(2, "mover 0 7\n" + work)

    def test_rows_that_lack(self):
        self.assert_refused(1, "")
        self.assert_refused(1, "\n")
        self.assert_refused(2, "mover 0 7")
        self.assert_refused(2, "mover 0 7\n")
        self.assert_refused(2, "mover 0 7\n\nstop")
        self.assert_refused(3, "mover 0 7\nwork")
        self.assert_refused(3, "mover 0 7\nwork 1 1")
        self.assert_refused(3, "mover 0 7\nwork\n")
        self.assert_refused(3, "mover 0 7\nwork\n\nstop")

    def test_programs_rows(self):
        for row in ("what", "drop", "drop 00", "drop -1", "drop 0 0", " drop 0", "drop 0 ", "drop  0", "number 0 -0", "number 0 01", "go a", "mark A",
                    "mark abcdefghi", "small", ""):
            self.assert_refused(3, "mover 0 7\nwork\n" + row)
            self.assert_refused(5, "marker 0 7\nwork\nstop\nmark b\n" + row)
            self.assert_refused(5, "marker 0 7\nwork\nstop\nmark b\n" + row + "\nstop")
        self.assert_refused(6, "marker 0 7\nwork\nmark a\ngo a\nstop\nmark a")
        self.assert_refused(4, "marker 0 7\nwork\nstop\n")

    def test_two_hundred_rows_and_one_more(self):
        rows = ["drop 0"] * 200
        self.assertEqual(answered("mover 0 7\nwork\n" + "\n".join(rows)), "stopped\nturns")
        self.assert_refused(203, "mover 0 7\nwork\n" + "\n".join(rows + ["drop 0"]))
        self.assert_refused(203, "mover 0 7\nwork\n" + "\n".join(rows) + "\n")

    def test_the_first_of_several(self):
        self.assert_refused(1, "mover 0 6\nwork 1001\nwhat")
        self.assert_refused(2, "mover 0 7\nwork 1001\nwhat")
        self.assert_refused(4, "mover 0 7\nwork 1000\nstop\ngo b\nwhat")


if __name__ == "__main__":
    unittest.main()
