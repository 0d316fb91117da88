import copy
import itertools
import random
import unittest

from stillheap.cuts import is_closed, only_by, paper_judged, reach_paper
from stillheap.errors import BadView
from stillheap.reach import reached
from tests.helpers import NO_VIEWS, dealt_view, least_ways

# Gaps in the numbers; 9 and 11 are a ring that nothing leads to, 2 and 5 one that is reached.
VIEW = ([None, 5, 30, 5], {2: [None, 5], 5: [2, 30, 2], 9: [11], 11: [9, 2], 30: [], 41: [None]})
PAPER = [(5, None, 1), (30, None, 2), (2, 5, 0)]


def told_last_step(view, way, ways):
    """The triple's from and place, from a way told whole."""
    if way[1] == ():
        return (None, way[0])
    thing = view[0][way[0]]
    for k in way[1][:-1]:
        thing = view[1][thing][k]
    return (thing, way[1][-1])


def shows(view, triples):
    """Point 3.3, said over whole lists."""
    for at, (thing, origin, place) in enumerate(triples):
        ahead = [triple[0] for triple in triples[:at]]
        if thing is None or thing in ahead:
            return False
        if origin is None:
            if (place, thing) not in list(enumerate(view[0])):
                return False
        elif origin not in ahead or (place, thing) not in list(enumerate(view[1][origin])):
            return False
    return sorted(triple[0] for triple in triples) == reached(view)


class ReachPaperTest(unittest.TestCase):
    def test_a_paper(self):
        self.assertEqual(reach_paper(VIEW), PAPER)
        self.assertEqual(reach_paper(([], {1: []})), [])

    def test_fewer_places_first_then_by_told_ways(self):
        view = ([8, 1], {1: [0, 3], 8: [7, None, 2], 7: [], 2: [6], 0: [6], 3: [], 6: []})
        self.assertEqual(reach_paper(view), [
            (8, None, 0), (1, None, 1), (7, 8, 0), (2, 8, 2), (0, 1, 0), (3, 1, 1), (6, 2, 0),
        ])

    def test_dealt_views(self):
        for seed in range(300):
            view = dealt_view(random.Random(seed))
            ways = least_ways(view)
            order = sorted(ways, key=lambda t: (len(ways[t][1]), ways[t]))
            paper = [(t,) + told_last_step(view, ways[t], ways) for t in order]
            self.assertEqual(reach_paper(view), paper, view)
            self.assertIs(paper_judged(view, paper), True)


class ClosedTest(unittest.TestCase):
    def test_closed_lists(self):
        for things in ([2, 5, 30], [2, 5, 9, 11, 30], [2, 5, 30, 41], [2, 5, 9, 11, 30, 41]):
            self.assertIs(is_closed(VIEW, things), True, things)
        self.assertIs(is_closed(([], {}), []), True)
        self.assertIs(is_closed(([None], {3: [3]}), []), True)

    def test_lists_that_are_not_closed(self):
        for things in (
            [], [5, 30], [2, 30], [2, 5], [2, 5, 11, 30], [2, 5, 9, 30], [5, 2, 30], [2, 30, 5],
            [2, 5, 5, 30], [2, 2, 5, 30], [2, 5, 30, 30], [-1, 2, 5, 30], [2, 4, 5, 30], [2, 5, 30, 10 ** 70],
        ):
            self.assertIs(is_closed(VIEW, things), False, things)

    def test_all_lists_over_small_views(self):
        for seed in range(40):
            view = dealt_view(random.Random(seed))
            things = sorted(view[1])[:4] + [50]
            for many in range(len(things) + 1):
                for picked in itertools.permutations(things, many):
                    told = list(view[0]) + [u for t in picked if t in view[1] for u in view[1][t]]
                    closed = (
                        list(picked) == sorted(picked) and 50 not in picked
                        and all(u is None or u in picked for u in told)
                    )
                    self.assertIs(is_closed(view, list(picked)), closed, (view, picked))


class PaperJudgedTest(unittest.TestCase):
    def test_papers_of_whomever(self):
        for paper in (
            PAPER,
            [(30, None, 2), (5, None, 3), (2, 5, 2)],
            [(5, None, 1), (30, 5, 1), (2, 5, 0)],
            [(5, None, 3), (2, 5, 2), (30, 5, 1)],
        ):
            self.assertIs(paper_judged(VIEW, paper), True, paper)
        self.assertIs(paper_judged(([None], {1: []}), []), True)

    def test_papers_put_otherwise(self):
        for paper in (
            [],
            PAPER[:2], PAPER[1:], [PAPER[0], PAPER[2]],
            PAPER + [PAPER[0]], PAPER + [(5, None, 3)], PAPER + [(2, 5, 2)],
            [(2, 5, 0), (5, None, 1), (30, None, 2)],
            [(5, 2, 1), (30, None, 2), (2, 5, 0)],
            [(5, 5, 0), (30, None, 2), (2, 5, 0)],
            [(5, None, 0), (30, None, 2), (2, 5, 0)],
            [(5, None, 2), (30, None, 2), (2, 5, 0)],
            [(5, None, -1), (30, None, 2), (2, 5, 0)],
            [(5, None, 4), (30, None, 2), (2, 5, 0)],
            [(5, None, 1), (30, None, 2), (2, 5, 1)],
            [(5, None, 1), (30, None, 2), (2, 5, -1)],
            [(5, None, 1), (30, None, 2), (2, 5, 3)],
            [(5, None, 1), (30, None, 2), (2, 30, 0)],
            [(5, None, 1), (30, None, 2), (2, None, 0)],
            [(5, None, 1), (30, None, 2), (2, 11, 1)],
            [(5, None, None), (30, None, 2), (2, 5, 0)],
            [(5, None, 1), (30, None, 2), (2, 5, None)],
            PAPER + [(None, None, 0)], PAPER + [(None, 2, 0)], PAPER + [(None, None, None)],
            PAPER + [(9, None, 0)], PAPER + [(9, 11, 0)], PAPER + [(11, 9, 0)], PAPER + [(41, 41, 0)],
            [(9, 11, 0), (11, 9, 0)] + PAPER,
            PAPER + [(10 ** 70, None, 1)], PAPER + [(9, 10 ** 70, 0)], PAPER + [(9, None, 10 ** 70)],
            PAPER + [(-1, None, 1)], PAPER + [(9, -1, 0)], PAPER + [(7, 8, 0)],
        ):
            self.assertIs(paper_judged(VIEW, paper), False, paper)

    def test_dealt_papers(self):
        judged = []
        for seed in range(600):
            dealer = random.Random(seed)
            view = dealt_view(dealer)
            paper = reach_paper(view)
            for _ in range(dealer.randrange(3)):
                told = list(view[1]) + [None, -1, 77]
                at = dealer.randrange(len(paper) + 1)
                deed = dealer.randrange(4)
                if deed == 0:
                    paper[at:at + 1] = []
                elif deed == 1:
                    paper.insert(at, (dealer.choice(told), dealer.choice(told), dealer.choice([None, 0, 1, 2])))
                elif deed == 2 and paper:
                    paper.append(paper.pop(0))
                elif deed == 3 and at < len(paper):
                    paper[at] = (paper[at][0], dealer.choice(told), dealer.choice([None, -1, 0, 1, 2]))
            judged.append(paper_judged(view, paper))
            self.assertIs(judged[-1], shows(view, paper), (view, paper))
        self.assertIn(True, judged)
        self.assertIn(False, judged)


class OnlyByTest(unittest.TestCase):
    def test_held_only_by(self):
        self.assertEqual(only_by(VIEW, 5), [2])
        self.assertEqual(only_by(VIEW, 2), [])
        self.assertEqual(only_by(VIEW, 30), [])

    def test_a_thing_that_is_not_reached_holds_none(self):
        for t in (9, 11, 41):
            self.assertEqual(only_by(VIEW, t), [])

    def test_rings(self):
        view = ([0], {0: [1], 1: [2], 2: [1, 0, 2]})
        self.assertEqual(only_by(view, 0), [1, 2])
        self.assertEqual(only_by(view, 1), [2])
        self.assertEqual(only_by(view, 2), [])

    def test_a_thing_that_is_also_reached_otherwise(self):
        view = ([0, 1], {0: [2, 3], 1: [3], 2: [4], 3: [], 4: []})
        self.assertEqual(only_by(view, 0), [2, 4])
        self.assertEqual(only_by(view, 1), [])

    def test_dealt_views(self):
        for seed in range(300):
            view = dealt_view(random.Random(seed))
            for t in view[1]:
                fields = dict(view[1])
                fields[t] = [None] * len(fields[t])
                less = reached((view[0], fields))
                self.assertEqual(only_by(view, t), [u for u in reached(view) if u not in less])


class RefusalsTest(unittest.TestCase):
    def test_what_is_no_view(self):
        for view in NO_VIEWS:
            for call in (
                lambda: reach_paper(view), lambda: is_closed(view, []), lambda: is_closed(view, [3, 1]),
                lambda: paper_judged(view, []), lambda: paper_judged(view, [(7, 7, 7)]), lambda: only_by(view, 0),
            ):
                with self.assertRaises(BadView, msg=view):
                    call()

    def test_things_that_the_view_has_not(self):
        for t in (-1, 0, 42, 10 ** 70):
            with self.assertRaises(BadView):
                only_by(VIEW, t)

    def test_nothing_handed_in_is_changed_and_what_is_told_is_the_askers_own(self):
        view = copy.deepcopy(VIEW)
        paper = reach_paper(view)
        things = [2, 5, 30]
        paper_judged(view, paper)
        is_closed(view, things)
        only_by(view, 5).append(1)
        self.assertEqual((view, paper, things), (VIEW, PAPER, [2, 5, 30]))
        paper.append((9, None, 0))
        self.assertEqual(reach_paper(view), PAPER)
        self.assertEqual(only_by(view, 5), [2])


if __name__ == "__main__":
    unittest.main()
