import random
import unittest

from stillheap.errors import BadLog
from stillheap.ideal import IdealHeap
from stillheap.judge import judged, standing
from stillheap.marker import Marker
from stillheap.mover import OldMover
from stillheap.moving import Mover
from tests.helpers import LogReader, Mirror

OLD = ("room", 40, False)
YOUNG = ("room", 40, True)
BIG = 10 ** 60

# Hand 0 holds thing 0, whose two fields tell 1 and 2; 1 tells 3; weak name 0 names 4, which is not reached.
CHAIN = [
    OLD, ("make", 0, 2, 0, 0), ("make", 1, 1, 1, 3), ("make", 2, 0, 2, 5), ("make", 3, 0, 3, 6), ("make", 4, 1, 4, 7),
    ("store", 0, 0, 1), ("store", 0, 1, 2), ("store", 1, 0, 3), ("name", 0, 4),
    ("drop", 1), ("drop", 2), ("drop", 3), ("drop", 4),
]
BEGUN = CHAIN + [("begin",)]
SHADED = BEGUN + [("shade", 0)]
# All is looked at, and the end is due.
DONE = SHADED + [("look", 0, 0), ("shade", 1), ("look", 0, 1), ("shade", 2), ("look", 1, 0), ("shade", 3)]
BOOK = [(0, 0), (1, 3), (2, 5), (3, 6), (4, 7)]


class JudgeTest(unittest.TestCase):
    def assert_right(self, log, gone=None):
        told = judged(log)
        self.assertEqual(told[0], "right", (told, log))
        if gone is not None:
            self.assertEqual(told[1], gone)
        self.assertEqual(told, LogReader(log).told())
        self.assertEqual(standing(log), LogReader(log).standing())

    def assert_wrong(self, why, log, at=None):
        """The last row, or that at a told place, is the first that is not right."""
        at = len(log) - 1 if at is None else at
        self.assertEqual(judged(log), ("wrong", at, why), log)
        with self.assertRaises(BadLog) as taken:
            standing(log)
        self.assertEqual(taken.exception.row, at)
        self.assertEqual(LogReader(log).told(), ("wrong", at, why))


class FormTest(JudgeTest):
    def test_the_first_row_lacks(self):
        self.assert_wrong("form", [], 0)
        self.assert_wrong("form", [("small",)])
        self.assert_wrong("form", [("small",), OLD], 0)
        self.assert_wrong("form", CHAIN[1:], 0)

    def test_the_first_row_twice_or_at_another_place(self):
        self.assert_wrong("form", [OLD, OLD])
        self.assert_wrong("form", [OLD, YOUNG, ("what",)], 1)
        self.assert_wrong("form", BEGUN + [OLD])

    def test_first_rows_that_are_none(self):
        for row in (("room",), ("room", 40), ("room", 40, True, 0), ("room", True, True), ("room", 40, 1), ("room", 40, 0),
                    ("room", "40", True), ("room", 40, "young"), ("rooms", 40, True), (), (True,), (40, True), ("",)):
            self.assert_wrong("form", [row], 0)
            self.assert_wrong("form", [row, ("end",)], 0)

    def test_rows_of_another_word(self):
        for row in ((), ("what",), ("",), ("take",), ("take", 0), ("held", 0), ("step", 1), ("Small",), (1,), (True,), ("say", 0),
                    ("drop 0",), (0, "drop")):
            self.assert_wrong("form", [OLD, row])
            self.assert_wrong("form", BEGUN + [row])

    def test_parts_too_few_or_too_many(self):
        for row in DONE[1:] + [("number", 0, 1), ("copy", 0, 1), ("load", 1, 0, 0), ("read", 0, 0), ("word", 0, 1), ("small",),
                               ("end",), ("move", 0, 20)]:
            self.assert_wrong("form", [OLD, row + (0,)])
            self.assert_wrong("form", BEGUN + [row + (0,)])
            if len(row) > 1:
                self.assert_wrong("form", BEGUN + [row[:-1]])

    def test_texts_and_ages_where_numbers_are_due(self):
        for row in (("make", 0, 2, 5, 20), ("load", 1, 0, 0), ("store", 0, 0, 1), ("copy", 1, 0), ("drop", 0), ("number", 0, 1),
                    ("name", 0, 0), ("read", 0, 0), ("word", 0, 0), ("shade", 0), ("look", 0, 0), ("move", 0, 20)):
            for at in range(1, len(row)):
                for part in ("0", "", "a", True, False):
                    self.assert_wrong("form", BEGUN + [row[:at] + (part,) + row[at + 1:]])


class DeedTest(JudgeTest):
    def test_each_programs_row_right(self):
        log = [OLD, ("make", 0, 2, 0, 0), ("number", 1, -BIG), ("store", 0, 1, 1), ("copy", 2, 0), ("load", 3, 2, 1), ("drop", 1),
               ("name", 7, 0), ("read", 4, 7), ("word", 4, BIG), ("read", 4, 0)]
        for many in range(1, len(log) + 1):
            self.assert_right(log[:many], [])

    def test_each_programs_row_refused(self):
        for row in (
            ("make", 8, 0, 5, 20), ("make", -1, 0, 5, 20), ("make", 0, 7, 5, 20), ("make", 0, -1, 5, 20),
            ("load", 8, 0, 0), ("load", -1, 0, 0), ("load", 0, 8, 0), ("load", 0, 1, 0), ("load", 0, 7, 0), ("load", 0, 0, 2),
            ("load", 0, 0, -1), ("store", 8, 0, 0), ("store", 1, 0, 0), ("store", 0, 2, 0), ("store", 0, -1, 0), ("store", 0, 0, 8),
            ("store", 0, 0, -1), ("copy", 8, 0), ("copy", 0, 8), ("copy", -1, 0), ("drop", 8), ("drop", -1),
            ("number", 8, 0), ("number", 0, BIG + 1), ("number", 0, -BIG - 1), ("name", 8, 0), ("name", -1, 0), ("name", 0, 1),
            ("name", 0, 8), ("read", 8, 0), ("read", 0, 8), ("read", 0, -1), ("word", 1, 0), ("word", 8, 0), ("word", 0, BIG + 1),
            ("word", 0, -BIG - 1), ("drop", BIG),
        ):
            for log in (CHAIN, BEGUN, SHADED):
                self.assert_wrong("deed", log + [row])

    def test_numbers_in_hands_are_no_things(self):
        log = CHAIN + [("number", 1, 5)]
        for row in (("load", 0, 1, 0), ("store", 1, 0, 0), ("name", 0, 1), ("word", 1, 0)):
            self.assert_wrong("deed", log + [row])

    def test_twelve_bearers_and_a_thirteenth(self):
        log = [YOUNG]
        for t in range(13):
            log += [("make", t % 8, 0, t, t), ("word", t % 8, t)]
        self.assert_right(log[:-1], [])
        self.assert_wrong("deed", log)
        again = log[:-1] + [("word", 3, 50)]
        self.assert_right(again)
        self.assert_wrong("deed", again + [("word", 4, 1)])
        gone = log[:-1] + [("small",)] + log[-1:]
        self.assert_right(gone, [[0, 1, 2, 3, 4]])
        old = [OLD] + log[1:-1] + [("begin",)]
        self.assert_wrong("deed", old + [("word", 4, 12)])
        shades = [("shade", t) for t in range(5, 13)]
        self.assert_wrong("deed", old + shades + [("word", 4, 12)])
        self.assert_right(old + shades + [("end",), ("word", 4, 12)], [[0, 1, 2, 3, 4]])


class NumberTest(JudgeTest):
    def test_another_number_than_the_next(self):
        for t in (1, -1, 2, BIG):
            self.assert_wrong("number", [OLD, ("make", 0, 0, t, 0)])
        for t in (4, 6, 0, -5):
            self.assert_wrong("number", CHAIN + [("make", 0, 0, t, 20)])
        self.assert_right(CHAIN + [("make", 0, 0, 5, 20)])

    def test_numbers_of_gone_things_are_not_given_again(self):
        log = DONE + [("end",)]
        self.assert_wrong("number", log + [("make", 0, 0, 4, 20)])
        self.assert_right(log + [("make", 0, 0, 5, 20)])


class RoomTest(JudgeTest):
    def test_the_end_of_the_memory(self):
        for n in range(7):
            self.assert_right([OLD, ("make", 0, n, 0, 39 - n)])
            self.assert_wrong("room", [OLD, ("make", 0, n, 0, 40 - n)])
            self.assert_right([OLD, ("make", 0, n, 0, 0)])
            self.assert_wrong("room", [OLD, ("make", 0, n, 0, -1)])
        for a in (40, 41, BIG, -BIG, -40):
            self.assert_wrong("room", [OLD, ("make", 0, 0, 0, a)])
        self.assert_wrong("room", [("room", 0, False), ("make", 0, 0, 0, 0)])
        self.assert_right([("room", 1, True), ("make", 0, 0, 0, 0)])

    def test_words_that_are_taken(self):
        log = [OLD, ("make", 0, 2, 0, 10)]
        for a in (8, 9, 10, 11, 12):
            self.assert_wrong("room", log + [("make", 1, 2, 1, a)])
        for a in (7, 13):
            self.assert_right(log + [("make", 1, 2, 1, a)])
        self.assert_wrong("room", log + [("make", 1, 6, 1, 6)])

    def test_words_of_what_went_are_free(self):
        self.assert_wrong("room", DONE + [("make", 1, 1, 5, 7)])
        self.assert_right(DONE + [("end",), ("make", 1, 1, 5, 7)])
        log = [YOUNG, ("make", 0, 2, 0, 10), ("drop", 0)]
        self.assert_wrong("room", log + [("make", 0, 2, 1, 10)])
        self.assert_right(log + [("small",), ("make", 0, 2, 1, 10)], [[0]])

    def test_moves(self):
        for log in (CHAIN, BEGUN, DONE):
            self.assert_right(log + [("move", 0, 9)])
            self.assert_right(log + [("move", 4, 38)])
            self.assert_right(log + [("move", 0, 37)])
            for a in (38, 40, -1, -3, BIG):
                self.assert_wrong("room", log + [("move", 0, a)])
        self.assert_right([YOUNG, ("make", 0, 2, 0, 10), ("move", 0, 20)])

    def test_a_move_onto_a_things_own_words(self):
        log = [OLD, ("make", 0, 2, 0, 10)]
        for a in (8, 9, 10, 11, 12):
            self.assert_wrong("room", log + [("move", 0, a)])
        for a in (7, 13):
            self.assert_right(log + [("move", 0, a)])

    def test_a_move_onto_anothers_words(self):
        log = [OLD, ("make", 0, 2, 0, 10), ("make", 1, 0, 1, 20)]
        for a in (18, 19, 20):
            self.assert_wrong("room", log + [("move", 0, a)])
        for a in (17, 21):
            self.assert_right(log + [("move", 0, a)])

    def test_words_moved_from_are_free(self):
        log = [OLD, ("make", 0, 2, 0, 10), ("move", 0, 20)]
        self.assert_right(log + [("make", 1, 2, 1, 10)])
        self.assert_right(log + [("move", 0, 10), ("move", 0, 13), ("make", 1, 2, 1, 20), ("make", 1, 2, 2, 10)])
        self.assert_wrong("room", log + [("make", 1, 2, 1, 18)])
        self.assertEqual(standing(log)[2], [(0, 20)])

    def test_a_move_of_a_thing_that_is_not_held(self):
        for t in (5, -1, BIG):
            self.assert_wrong("deed", CHAIN + [("move", t, 20)])
        self.assert_wrong("deed", DONE + [("end",), ("move", 4, 20)])
        self.assert_right(DONE + [("move", 4, 20)])


class RoundTest(JudgeTest):
    def test_none_is_on(self):
        for row in (("shade", 0), ("look", 0, 0), ("end",), ("shade", 77), ("look", 77, 0), ("look", 0, 9)):
            self.assert_wrong("round", CHAIN + [row])
            self.assert_wrong("round", DONE + [("end",), row])

    def test_one_is_on(self):
        for log in (BEGUN, SHADED, DONE):
            self.assert_wrong("round", log + [("begin",)])
        self.assert_right(DONE + [("end",), ("begin",)])

    def test_begin_with_young_things(self):
        log = [YOUNG, ("make", 0, 0, 0, 0)]
        self.assert_wrong("round", log + [("begin",)])
        self.assert_right(log + [("small",), ("begin",)])
        self.assert_wrong("round", [YOUNG, ("make", 0, 0, 0, 0), ("drop", 0), ("begin",)])
        self.assert_right([YOUNG, ("begin",)])

    def test_things_made_young_within_a_round(self):
        log = [YOUNG, ("begin",), ("make", 0, 1, 0, 0)]
        self.assert_wrong("round", log + [("begin",)])
        self.assert_right(log + [("end",)], [[]])
        self.assert_wrong("round", log + [("end",), ("begin",)])
        self.assert_right(log + [("end",), ("small",), ("begin",)])

    def test_small(self):
        log = [YOUNG, ("make", 0, 1, 0, 0), ("small",), ("make", 1, 1, 1, 2), ("make", 2, 0, 2, 4), ("make", 3, 0, 3, 5),
               ("store", 0, 0, 1), ("store", 1, 0, 2), ("drop", 0), ("drop", 1), ("drop", 2), ("drop", 3), ("small",)]
        self.assert_right(log, [[], [3]])
        self.assert_right(log + [("begin",), ("small",), ("end",)], [[], [3], [], [0, 1, 2]])
        self.assert_right(CHAIN + [("small",)], [[]])


class ColourTest(JudgeTest):
    def test_a_thing_in_a_hand_at_the_begin(self):
        self.assert_right(SHADED)
        for t in (1, 2, 3, 4):
            self.assert_wrong("colour", BEGUN + [("shade", t)])
        self.assert_right(CHAIN + [("copy", 5, 0), ("begin",), ("drop", 0), ("drop", 5), ("shade", 0)])
        self.assert_wrong("colour", SHADED + [("shade", 0)])

    def test_a_thing_that_a_look_meets(self):
        self.assert_wrong("colour", SHADED + [("shade", 1)])
        self.assert_right(SHADED + [("look", 0, 0), ("shade", 1)])
        self.assert_wrong("colour", SHADED + [("look", 0, 1), ("shade", 1)])
        self.assert_wrong("colour", SHADED + [("look", 0, 0), ("shade", 1), ("shade", 1)])

    def test_a_thing_that_store_writes_over(self):
        self.assert_right(SHADED + [("store", 0, 0, 7), ("shade", 1)])
        self.assert_right(BEGUN + [("store", 0, 0, 7), ("shade", 1)])
        self.assert_right(BEGUN + [("load", 1, 0, 0), ("store", 1, 0, 7), ("shade", 3)])
        for rows in ([("number", 5, 1), ("store", 0, 0, 5)], [("store", 0, 0, 0)], [("load", 5, 0, 0), ("store", 0, 0, 5)]):
            self.assert_right(BEGUN + rows + [("shade", 1)])
            self.assert_wrong("colour", BEGUN + rows + [("shade", 2)])
        log = DONE[:-1] + [("store", 0, 0, 7)]
        self.assert_wrong("colour", log + [("end",)])

    def test_a_store_into_a_field_that_is_looked_at(self):
        log = SHADED + [("look", 0, 0), ("shade", 1), ("look", 0, 1), ("shade", 2), ("load", 1, 0, 0)]
        self.assert_wrong("colour", log + [("store", 0, 0, 7), ("shade", 3)])
        self.assert_right(log + [("store", 0, 0, 7), ("look", 1, 0), ("shade", 3), ("end",)], [[4]])
        self.assert_right(log + [("store", 0, 0, 7), ("store", 1, 0, 7), ("shade", 3)])

    def test_a_store_into_a_made_things_field(self):
        log = SHADED + [("make", 6, 1, 5, 20), ("store", 6, 0, 0), ("store", 6, 0, 7)]
        for t in (0, 1, 2, 3, 4, 5):
            self.assert_wrong("colour", log + [("shade", t)])

    def test_a_made_things_field_lets_nothing(self):
        log = [OLD, ("make", 0, 1, 0, 0), ("make", 1, 0, 1, 2), ("name", 0, 1), ("store", 0, 0, 1), ("drop", 1), ("begin",),
               ("make", 2, 1, 2, 4), ("shade", 0)]
        told = log + [("load", 1, 0, 0), ("store", 2, 0, 1)]
        self.assert_right(told + [("shade", 1)])
        self.assert_wrong("colour", log + [("load", 1, 2, 0), ("shade", 1)])

    def test_a_thing_that_read_tells(self):
        self.assert_wrong("colour", SHADED + [("shade", 4)])
        self.assert_right(SHADED + [("read", 4, 0), ("shade", 4)])
        self.assert_wrong("colour", DONE + [("read", 4, 0), ("end",)])
        self.assert_wrong("colour", DONE + [("read", 4, 0), ("drop", 4), ("end",)])
        self.assert_wrong("colour", DONE + [("read", 4, 0), ("shade", 4), ("end",)])
        self.assert_right(DONE + [("read", 4, 0), ("shade", 4), ("look", 4, 0), ("end",)], [[]])
        self.assert_wrong("colour", SHADED + [("read", 4, 1), ("shade", 4)])

    def test_a_thing_that_is_let_by_load_alone(self):
        self.assert_right(BEGUN + [("load", 1, 0, 0), ("shade", 1)])
        self.assert_right(BEGUN + [("load", 1, 0, 0), ("drop", 1), ("shade", 1)])
        self.assert_right(BEGUN + [("load", 1, 0, 0), ("load", 3, 1, 0), ("shade", 3)])
        self.assert_wrong("colour", BEGUN + [("load", 1, 0, 0), ("shade", 3)])
        self.assert_wrong("colour", BEGUN + [("load", 1, 0, 1), ("shade", 1)])
        # A load ahead of the round lets nothing in it.
        self.assert_wrong("colour", CHAIN + [("load", 1, 0, 0), ("drop", 1), ("begin",), ("shade", 1)])

    def test_a_load_from_a_field_that_is_looked_at(self):
        log = SHADED + [("look", 0, 0), ("shade", 1), ("load", 1, 0, 0)]
        for t in (0, 1, 2, 3, 4):
            self.assert_wrong("colour", log + [("shade", t)])

    def test_looks(self):
        self.assert_wrong("colour", BEGUN + [("look", 0, 0)])
        self.assert_right(SHADED + [("look", 0, 1), ("look", 0, 0)])
        self.assert_wrong("colour", SHADED + [("look", 0, 0), ("look", 0, 0)])
        self.assert_wrong("colour", SHADED + [("look", 1, 0)])
        for t, k in ((0, 2), (0, -1), (2, 0), (5, 0), (-1, 0), (0, BIG), (BIG, 0), (1, 1)):
            self.assert_wrong("deed", SHADED + [("look", t, k)])
            self.assert_wrong("deed", BEGUN + [("look", t, k)])

    def test_shades_of_what_is_not_held(self):
        for t in (5, -1, BIG):
            self.assert_wrong("deed", SHADED + [("shade", t)])
        self.assert_wrong("deed", DONE + [("end",), ("begin",), ("shade", 4)])

    def test_end(self):
        self.assert_right(DONE + [("end",)], [[4]])
        for many in range(len(BEGUN), len(DONE)):
            self.assert_wrong("colour", DONE[:many] + [("end",)])

    def test_end_with_a_white_thing_owed(self):
        self.assert_wrong("colour", BEGUN + [("end",)])
        self.assert_wrong("colour", DONE[:-1] + [("end",)])
        self.assert_wrong("colour", [OLD, ("make", 0, 0, 0, 0), ("begin",), ("drop", 0), ("end",)])

    def test_end_with_fields_not_looked_at(self):
        log = [OLD, ("make", 0, 2, 0, 0), ("begin",), ("shade", 0)]
        self.assert_wrong("colour", log + [("end",)])
        self.assert_wrong("colour", log + [("look", 0, 1), ("end",)])
        self.assert_right(log + [("look", 0, 1), ("look", 0, 0), ("end",)])

    def test_end_where_only_let_things_are_white(self):
        # What load told from a field is owed at the latest when the field is looked at, or gets another value.
        log = [OLD, ("make", 0, 1, 0, 0), ("make", 1, 0, 1, 2), ("store", 0, 0, 1), ("drop", 1), ("begin",), ("shade", 0),
               ("load", 1, 0, 0), ("drop", 1)]
        self.assertEqual(standing(log)[0], [1])
        self.assert_wrong("colour", log + [("end",)])
        self.assert_right(log + [("shade", 1)])
        self.assert_wrong("colour", log + [("shade", 1), ("end",)])
        self.assert_right(log + [("shade", 1), ("look", 0, 0), ("end",)], [[]])
        self.assert_wrong("colour", log + [("look", 0, 0), ("end",)])
        self.assert_wrong("colour", log + [("store", 0, 0, 7), ("look", 0, 0), ("end",)])
        self.assert_right(log + [("store", 0, 0, 7), ("look", 0, 0), ("shade", 1), ("end",)], [[]])

    def test_a_let_thing_may_be_shaded_ahead_of_what_led_to_it(self):
        log = BEGUN + [("load", 1, 0, 0), ("load", 3, 1, 0), ("shade", 3), ("shade", 0), ("look", 0, 1), ("shade", 2), ("look", 0, 0)]
        self.assert_wrong("colour", log + [("end",)])
        self.assert_right(log + [("shade", 1), ("look", 1, 0), ("end",)], [[4]])

    def test_made_things_are_not_white(self):
        log = BEGUN + [("make", 1, 1, 5, 20), ("make", 2, 0, 6, 22), ("store", 1, 0, 2)]
        self.assertEqual(standing(log)[0], [0, 1, 2, 3, 4])
        for row in (("shade", 5), ("shade", 6), ("look", 5, 0)):
            self.assert_wrong("colour", log + [row])


class OrderTest(JudgeTest):
    """Where several reasons are due the first of them is told."""

    def test_form_ahead_of_all(self):
        self.assert_wrong("form", CHAIN + [("look", 0, 9, 9)])
        self.assert_wrong("form", CHAIN + [("begin", 0)])

    def test_round_ahead_of_deed_and_colour(self):
        for row in (("look", 77, 0), ("look", 0, 9), ("shade", 77), ("shade", 1), ("end",)):
            self.assert_wrong("round", CHAIN + [row])

    def test_deed_ahead_of_number_room_and_colour(self):
        for row in (("make", 8, 0, 77, 0), ("make", 0, 7, 77, 0), ("make", 8, 0, 5, 0), ("make", 0, 7, 5, 20), ("move", 77, 0),
                    ("move", 77, BIG), ("look", 1, 9), ("shade", 77)):
            self.assert_wrong("deed", SHADED + [row])

    def test_number_ahead_of_room(self):
        self.assert_wrong("number", CHAIN + [("make", 0, 0, 77, 0)])
        self.assert_wrong("number", CHAIN + [("make", 0, 0, 4, BIG)])

    def test_the_first_row_that_is_not_right(self):
        log = CHAIN + [("shade", 0), ("what",), ("begin",)]
        self.assert_wrong("round", log, len(CHAIN))
        self.assert_wrong("deed", CHAIN + [("drop", 9), ("drop", 8)], len(CHAIN))


class StandingTest(JudgeTest):
    def test_behind_rows(self):
        fields = [(0, 0), (0, 1)]
        for log, told in (
            ([OLD], ([], [], [])),
            (CHAIN, ([], [], BOOK)),
            (BEGUN, ([0, 1, 2, 3, 4], [], BOOK)),
            (SHADED, ([1, 2, 3, 4], fields, BOOK)),
            (SHADED + [("look", 0, 0)], ([1, 2, 3, 4], [(0, 1)], BOOK)),
            (SHADED + [("look", 0, 0), ("shade", 1)], ([2, 3, 4], [(0, 1), (1, 0)], BOOK)),
            (DONE, ([4], [], BOOK)),
            (DONE + [("read", 7, 0), ("shade", 4)], ([], [(4, 0)], BOOK)),
            (DONE + [("end",)], ([], [], BOOK[:4])),
            (BEGUN + [("make", 1, 3, 5, 20)], ([0, 1, 2, 3, 4], [], BOOK + [(5, 20)])),
            (SHADED + [("move", 0, 20)], ([1, 2, 3, 4], fields, [(0, 20)] + BOOK[1:])),
        ):
            self.assertEqual(standing(log), told)
            self.assertIsInstance(standing(log), tuple)

    def test_refused(self):
        for log, at in (([], 0), ([("end",)], 0), ([OLD, OLD], 1), (CHAIN + [("end",), ("what",)], len(CHAIN))):
            with self.assertRaises(BadLog) as taken:
                standing(log)
            self.assertEqual(taken.exception.row, at)

    def test_handed_in_and_told(self):
        log = list(DONE)
        standing(log)[0].append(9)
        standing(log)[2].clear()
        self.assertEqual(standing(log), ([4], [], BOOK))
        end = log + [("end",)]
        judged(end)[1][0].append(7)
        self.assertEqual(judged(end), ("right", [[4]]))
        self.assertEqual((log, end), (DONE, DONE + [("end",)]))


def hall_run(make_hall, young, seed, many):
    """A mirror of a hall with rows of deeds and steps dealt."""
    dealer = random.Random(f"{young} {seed}")
    mirror = Mirror(make_hall(young, 60), IdealHeap(young, 60))
    for _ in range(many):
        h, g, k, w = dealer.randrange(8), dealer.randrange(8), dealer.randrange(3), dealer.randrange(3)
        deed = dealer.choice(
            [("make", h, k)] * 4 + [("load", h, g, k)] * 4 + [("store", g, k, h)] * 5 + [("copy", h, g), ("name", w, h)]
            + [("read", h, w), ("drop", h), ("drop", h), ("number", h, 1), ("word", h, 4)] + [("turn",)] * 5 + [("small",)])
        if deed != ("turn",):
            mirror.both(*deed)
        elif mirror.hall.round_on():
            mirror.step(dealer.choice((1, 2, 3, 1000)))
        else:
            mirror.both("begin")
    return mirror


HALLS = ((lambda young, limit: OldMover(limit), 0), (Mover, 0), (Mover, 7), (Mover, 30), (Marker, 0), (Marker, 7), (Marker, 30))


class HallsLogsTest(unittest.TestCase):
    def test_they_are_right_and_tell_what_went(self):
        for make_hall, young in HALLS:
            for seed in range(12):
                mirror = hall_run(make_hall, young, seed, 250)
                log = mirror.hall.log()
                self.assertEqual(judged(log), ("right", mirror.gone))
                self.assertEqual(standing(log)[2], mirror.hall.book())
                self.assertEqual(standing(log), LogReader(log).standing())

    def test_each_of_their_beginnings_is_right(self):
        for make_hall, young in HALLS:
            log = hall_run(make_hall, young, 3, 60).hall.log()
            for many in range(1, len(log) + 1):
                self.assertEqual(judged(log[:many])[0], "right")

    def changed(self, dealer, log):
        """The log with a row taken out, put in twice, exchanged with another, moved or told otherwise."""
        log, deed = list(log), dealer.randrange(5)
        at, other = dealer.randrange(len(log)), dealer.randrange(len(log))
        if deed == 0:
            log.pop(at)
        elif deed == 1:
            log.insert(at, log[at])
        elif deed == 2:
            log[at], log[other] = log[other], log[at]
        elif deed == 3:
            log.insert(other, log.pop(at))
        else:
            part = dealer.randrange(len(log[at]))
            log[at] = log[at][:part] + (dealer.choice((0, 1, 2, 3, 8, -1, 30, True, "end")),) + log[at][part + 1:]
        return log

    def test_changed_logs_are_judged_by_the_rows(self):
        reasons = {}
        for make_hall, young in HALLS:
            for seed in range(4):
                log = hall_run(make_hall, young, seed, 90).hall.log()
                for turn in range(120):
                    other = self.changed(random.Random(turn), log)
                    told = judged(other)
                    self.assertEqual(told, LogReader(other).told())
                    reasons[told[-1] if told[0] == "wrong" else "right"] = True
        self.assertEqual(set(reasons), {"right", "form", "round", "deed", "number", "room", "colour"})


class WhoeverTest(unittest.TestCase):
    """Rows put by chance, each kept where it is right: just those things go that an ideal heap lets go."""

    def row(self, dealer, reader):
        h, g, k, t = dealer.randrange(8), dealer.randrange(8), dealer.randrange(2), dealer.randrange(max(1, reader.made))
        n, a = dealer.randrange(3), dealer.randrange(60)
        return dealer.choice(
            [("make", h, n, reader.made, a)] * 3 + [("load", h, g, k)] * 4 + [("store", g, k, h)] * 5 + [("read", h, k), ("name", k, h)]
            + [("drop", h)] * 3 + [("copy", h, g), ("move", t, a), ("small",), ("begin",), ("begin",), ("end",), ("end",)]
            + [("shade", t)] * 8 + [("look", t, k)] * 10)

    def ideal_deed(self, ideal, row):
        if row[0] == "make":
            ideal.make(row[1], row[2])
        elif row[0] == "begin":
            self.assertTrue(all(ideal.is_old(t) for t in ideal.things()))
            ideal.begin()
        elif row[0] not in ("shade", "look", "move"):
            getattr(ideal, row[0])(*row[1:])

    def run_one(self, young, seed):
        dealer = random.Random(seed)
        log, ideal, gone = [("room", 60, young > 0)], IdealHeap(young, 400), []
        reader = LogReader(log)
        for _ in range(900):
            row = self.row(dealer, reader)
            if judged(log + [row])[0] == "wrong":
                continue
            log.append(row)
            reader = LogReader(log)
            before = ideal.things()
            self.ideal_deed(ideal, row)
            if row in (("small",), ("end",)):
                gone.append([t for t in before if t not in ideal.things()])
            self.assertEqual((sorted(reader.fields), reader.hands), (ideal.things(), ideal.hands()), log)
        self.assertEqual(judged(log), ("right", gone))
        return gone

    def test_just_those_go_that_the_ideal_heap_tells(self):
        went = 0
        for young in (0, 64):
            for seed in range(6):
                went += sum(len(gone) for gone in self.run_one(young, seed))
        self.assertGreater(went, 50)


if __name__ == "__main__":
    unittest.main()
