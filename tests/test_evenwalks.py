import itertools
import random

from tests.helper import Case, all_webs, not_sequences, not_wholes, random_web, wrong_groupings
from thinslopes.asks import book_answers
from thinslopes.errors import BadTie, BadWalk
from thinslopes.evenwalks import Walk, walk_fault, walk_filling, walk_through
from thinslopes.groupings import all_groupings, book_of
from thinslopes.told import told_letters
from thinslopes.webs import Web

# The web of point 4.11: a path with a diagonal at both ends.
PATH = Web(3, ((0, 0), (0, 1), (1, 2), (2, 2)))
ROUND = (0, 0, 1, 2, 2, 1, 0)
SQUARE = Web(4, [(0, 1), (0, 3), (1, 2), (2, 3)])
ALL_TIES = Web(6, list(itertools.combinations_with_replacement(range(6), 2)))
TIES = [(thing, BadTie(thing)) for thing in [*not_wholes(), -1, 4, [0]]]


def filling_of(web, points):
    """By the words of point 4.5."""
    numbers = [0] * len(web)
    for step, (one, other) in enumerate(zip(points, points[1:])):
        numbers[web.ties.index((min(one, other), max(one, other)))] += (-1) ** step
    return tuple(2 * number if tie[0] == tie[1] else number for number, tie in zip(numbers, web.ties))


def walks(web, grouping, steps):
    """All walks without fault of so many steps, ascending."""
    found = [(point,) for point in range(web.points)]
    for _ in range(steps):
        found = [
            (*points, point) for points in found for point in web.friends_of(points[-1])
            if len(points) < 2 or grouping[point] == grouping[points[-2]]
        ]
    return [points for points in found if points[-1] == points[0] and any(filling_of(web, points))]


def least_through(web, grouping, most):
    """For each tie the points of the least walk through it of at most so many steps, or None."""
    least = [None] * len(web)
    for steps in range(2, most + 1, 2):
        for points in walks(web, grouping, steps):
            for tie, number in enumerate(filling_of(web, points)):
                if number and least[tie] is None:
                    least[tie] = points
    return least


class WalkFillingTest(Case):
    """Points 4.4 and 4.5: walk_filling."""

    def test_the_example_of_point_4_11(self):
        for points in (ROUND, list(ROUND)):
            self.gives((2, -2, 2, -2), walk_filling, PATH, Walk(points, (0, 0)))
        self.gives((2, -2, 2, -2), walk_filling, walk=Walk(ROUND, None), web=PATH)

    def test_there_and_back_and_round(self):
        self.gives((0, 0, 0, 0), walk_filling, SQUARE, Walk((0, 1, 0), (0, 0)))
        self.gives((1, -1, -1, 1), walk_filling, SQUARE, Walk((0, 1, 2, 3, 0), (0, 0)))
        self.gives((2, -2, -2, 2), walk_filling, SQUARE, Walk((0, 1, 2, 3, 0, 1, 2, 3, 0), (7, "x")))
        self.gives((-1, 1, 1, -1), walk_filling, SQUARE, Walk([0, 3, 2, 1, 0], (0, 0)))
        self.gives((0,), walk_filling, Web(1, [(0, 0)]), Walk((0, 0, 0), (0, 0)))

    def test_many_more_points_than_those_of_the_web(self):
        points = (0, 1) * 500 + (0,)
        self.gives((0, 0, 0, 0), walk_filling, SQUARE, Walk(points, (0, 0)))
        self.gives((250, -250, -250, 250), walk_filling, SQUARE, Walk((0, 1, 2, 3) * 250 + (0,), (0, 0)))

    def test_all_answers_are_0(self):
        for web in all_webs(3)[::5]:
            for grouping in all_groupings(3):
                mould, book = web.as_mould(), book_of(grouping)
                for steps in (4, 6):
                    for points in walks(web, grouping, steps)[:40]:
                        numbers = self.taken(walk_filling, web, Walk(points, None))
                        self.same(numbers, filling_of(web, points))
                        self.assertEqual(set(book_answers(mould, book, numbers)), {(0, 1)})

    def refused(self, word, points):
        self.refuses(BadWalk(word), walk_filling, SQUARE, Walk(points, (0, 0)))
        self.gives(word, walk_fault, SQUARE, (0, 0, 0, 0), Walk(points, (0, 0)))

    def test_closed(self):
        for points in [*not_sequences(), [], (0,), (0, 1), (0, 1, 2), (0, 1, 2, 3, 1)]:
            self.refused("closed", points)
        for thing in [*not_wholes(), -1, 4, [0]]:
            self.refused("closed", (0, thing, 0))
            self.refused("closed", [thing, 1, thing])

    def test_even_and_tie(self):
        self.refused("even", (0, 0))
        self.refused("even", [0, 1, 3, 0])
        self.refused("tie", (0, 2, 0))
        self.refused("tie", [0, 1, 2, 2, 0])
        self.refused("tie", (1, 1, 1))

    def test_two_words_at_once(self):
        self.refused("closed", (0, 2))
        self.refused("closed", (0, True, 1, 0))
        self.refused("even", (0, 2, 2, 0))


class WalkFaultTest(Case):
    """Point 4.5: walk_fault."""

    def test_right_walks(self):
        self.gives(None, walk_fault, PATH, (0, 0, 0), Walk(ROUND, (0, 0)))
        self.gives(None, walk_fault, PATH, [0, 0, 0], Walk(list(ROUND), (0, 0)))
        self.gives(None, walk_fault, walk=Walk((1, 2, 3, 0, 1), (0, 1)), grouping=(0, 1, 0, 1), web=SQUARE)
        self.gives(None, walk_fault, SQUARE, (0, 1, 0, 1), Walk((0, 1, 2, 3, 0), (0, 1)))

    def test_groups(self):
        for groups in ([0, 0], (0, 1), (0,), (0, 0, 0), (False, 0), (0.0, 0), None, 0, "00", (None, 0), ([0], 0)):
            self.gives("groups", walk_fault, PATH, (0, 0, 0), Walk(ROUND, groups))
        for groups in ((1, 0), [0, 1], (0, 0), (1, 1), (0, True), "01"):
            self.gives("groups", walk_fault, SQUARE, (0, 1, 0, 1), Walk((1, 2, 3, 0, 1), groups))
        self.gives("groups", walk_fault, SQUARE, (0, 1, 0, 2), Walk((0, 1, 2, 3, 0), (0, 1)))
        self.gives("groups", walk_fault, SQUARE, (0, 0, 0, 1), Walk((0, 1, 2, 3, 0), (0, 0)))

    def test_none(self):
        self.gives("none", walk_fault, SQUARE, (0, 0, 0, 0), Walk((0, 1, 0), (0, 0)))
        self.gives("none", walk_fault, SQUARE, (0, 1, 2, 3), Walk((0, 1, 0), (0, 1)))
        self.gives("none", walk_fault, PATH, (0, 0, 0), Walk((0, 0, 0), (0, 0)))
        self.gives("none", walk_fault, PATH, (0, 0, 0), Walk((0, 1, 2, 1, 0), (0, 0)))

    def test_two_words_at_once(self):
        self.gives("groups", walk_fault, SQUARE, (0, 0, 0, 0), Walk((0, 1, 0), (0, 1)))
        self.gives("closed", walk_fault, SQUARE, (0, 0, 0, 0), Walk((0, 1), (0, 1)))
        self.gives("tie", walk_fault, SQUARE, (0, 1, 0, 1), Walk((0, 2, 0), (0, 1)))

    def test_wrong_groupings(self):
        self.refuses_in_order(walk_fault, (PATH, (0, 0, 0), Walk(None, None)), [(1, wrong_groupings(3))])


class WalkThroughTest(Case):
    """Point 4.6."""

    def compared(self, web, grouping, most):
        least = least_through(web, grouping, most)
        told = told_letters(web.as_mould(), book_of(grouping))
        for tie, points in enumerate(least):
            found = self.taken(walk_through, web, grouping, tie)
            if tie in told:
                self.assertIsNone(points)
                self.assertIsNone(found)
            else:
                self.assertIsNone(walk_fault(web, grouping, found))
                self.assertNotEqual(filling_of(web, found.points)[tie], 0)
                self.assertIn(len(found.points) - 1, (4, 6, 8, 10, 12))
                if points is not None or len(found.points) <= most + 1:
                    self.assertEqual(found.points, points)
        return least

    def test_against_all_walks(self):
        for web in all_webs(3):
            for grouping in all_groupings(3):
                self.assertNotIn(False, self.compared(web, grouping, 6))

    def test_larger_webs(self):
        chance = random.Random(82)
        for points, ties, most in ((4, 0.4, 8), (5, 0.4, 6), (6, 0.25, 8)):
            for _ in range(12):
                web = random_web(chance, points, ties)
                grouping = chance.choice([(0,) * points, (0,) * points, *all_groupings(points)])
                self.compared(web, grouping, most if len(web) < 8 else 4)

    def test_the_longest(self):
        for points in range(2, 7):
            web = Web(points, sorted([(0, 0), (points - 1, points - 1), *[(at, at + 1) for at in range(points - 1)]]))
            there = tuple(range(points))
            expected = Walk((0, *there, *there[::-1]), (0, 0))
            for tie in range(len(web)):
                self.gives(expected, walk_through, web, (0,) * points, tie)

    def test_examples(self):
        self.gives(Walk((0, 1, 2, 3, 0), (0, 1)), walk_through, SQUARE, [0, 1, 0, 1], 3)
        self.gives(Walk((0, 1, 2, 3, 0), (0, 0)), walk_through, tie=0, grouping=(0,) * 4, web=SQUARE)
        self.gives(None, walk_through, SQUARE, (0, 1, 2, 3), 0)
        self.gives(Walk((0, 0, 1, 1, 0), (0, 0)), walk_through, ALL_TIES, (0,) * 6, 0)

    def test_all_ties_of_six_points(self):
        for grouping in ((0,) * 6, (0, 0, 0, 1, 1, 1), (0, 1, 2, 3, 4, 5), (0, 1, 1, 1, 1, 1)):
            least = least_through(ALL_TIES, grouping, 4)
            for tie in range(21):
                points = least[tie]
                groups = tuple(sorted(grouping[point] for point in ALL_TIES.ties[tie]))
                self.gives(None if points is None else Walk(points, groups), walk_through, ALL_TIES, grouping, tie)

    def test_errors(self):
        wrong = [(1, wrong_groupings(3)), (2, TIES)]
        self.refuses_in_order(walk_through, (PATH, (0, 0, 0), 0), wrong)
        self.refuses(BadTie(0), walk_through, Web(1, []), (0,), 0)
