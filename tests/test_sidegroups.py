import itertools
import random

from tests.helper import (
    Case, all_webs, as_fraction, not_sequences, not_wholes, random_web, unit, weighted, wrong_groupings,
)
from tests.test_evenwalks import ALL_TIES, PATH, ROUND, TIES, least_through
from thinslopes.asks import span_rows
from thinslopes.evenwalks import Walk, walk_fault, walk_filling, walk_through
from thinslopes.groupings import all_groupings, book_of
from thinslopes.pieces import all_pieces, odd_ring
from thinslopes.rests import told_moduli
from thinslopes.sidegroups import (
    Balance, balance_fault, balance_weights, hidden_many, side_told, tie_told, told_ties,
)
from thinslopes.spans import Weights
from thinslopes.told import hidden_all, told_letters, weights_fault
from thinslopes.webs import Web
from thinslopes.wholes import letter_bottoms

TRIANGLE = Web(3, [(0, 1), (0, 2), (1, 2)])


def some_cases():
    chance = random.Random(83)
    cases = [(web, grouping) for web in all_webs(3) for grouping in all_groupings(3)]
    for points, ties in ((4, 0.4), (5, 0.3), (6, 0.3), (6, 0.6)):
        for _ in range(10):
            web = random_web(chance, points, ties)
            cases += [(web, grouping) for grouping in chance.sample(list(all_groupings(points)), 3)]
    return cases


CASES = some_cases()


class ToldTiesTest(Case):
    """Points 4.7 and 4.8."""

    def test_against_the_span_rows_of_the_book(self):
        for web, grouping in CASES:
            mould, book = web.as_mould(), book_of(grouping)
            told = told_letters(mould, book)
            self.gives(told, told_ties, web, list(grouping))
            self.gives(len(hidden_all(mould, book)), hidden_many, web, grouping)
            walk = self.taken(side_told, web, grouping)
            self.assertIs(walk is None, len(told) == len(web))

    def test_the_rule_of_rings(self):
        for web, grouping in CASES:
            right = True
            for piece in all_pieces(web, grouping):
                # The ties that are more than a tree needs: each closes a ring.
                rings = len(piece.ties) - len(piece.points) + 1
                odd = odd_ring(web, piece) is not None
                right = right and (rings == 0 or (rings == 1 and odd))
            self.assertIs(side_told(web, grouping) is None, right)

    def test_the_least_of_all_walks(self):
        for web, grouping in CASES[:320]:
            least = [points for points in least_through(web, grouping, 6) if points is not None]
            found = side_told(web, grouping)
            if least:
                self.assertEqual(found.points, min(least, key=lambda points: (len(points), points)))
                self.assertIsNone(walk_fault(web, grouping, found))
            else:
                self.assertIsNone(found)
        for web, grouping in CASES[320:]:
            found = side_told(web, grouping)
            through = [walk_through(web, grouping, tie) for tie in range(len(web))]
            keys = [(len(walk.points), walk.points) for walk in through if walk is not None]
            self.assertEqual(found and (len(found.points), found.points), min(keys, default=None))

    def test_groups_that_are_joined_tell_no_more(self):
        for web, grouping in CASES:
            joined = [0 if group == max(grouping) else group for group in grouping]
            self.assertLessEqual(set(told_ties(web, joined)), set(told_ties(web, grouping)))

    def test_a_tie_that_is_struck(self):
        for web, grouping in CASES[::3]:
            told, many = told_ties(web, grouping), hidden_many(web, grouping)
            for number, tie in enumerate(web.ties):
                struck = web.without_tie(tie)
                self.gives(many if number in told else many - 1, hidden_many, struck, grouping)
                still = {struck.ties[at] for at in told_ties(struck, grouping)}
                self.assertLessEqual({web.ties[at] for at in told} - {tie}, still)

    def test_webs_without_a_tie_and_with_all_ties(self):
        for points in range(1, 7):
            for grouping in all_groupings(points):
                self.gives((), told_ties, Web(points, []), grouping)
                self.gives(None, side_told, Web(points, []), grouping)
                self.gives(0, hidden_many, Web(points, []), grouping)
        for grouping in list(all_groupings(6))[::20]:
            mould, book = ALL_TIES.as_mould(), book_of(grouping)
            self.gives(told_letters(mould, book), told_ties, ALL_TIES, grouping)
            self.gives(len(hidden_all(mould, book)), hidden_many, grouping=grouping, web=ALL_TIES)

    def test_examples(self):
        self.gives(Walk(ROUND, (0, 0)), side_told, PATH, (0, 0, 0))
        self.gives((), told_ties, PATH, [0, 0, 0])
        self.gives(1, hidden_many, PATH, (0, 0, 0))
        self.gives((0, 1, 2, 3), told_ties, web=PATH, grouping=(0, 1, 2))
        self.gives((0, 1, 2), told_ties, TRIANGLE, (0, 0, 0))

    def test_wrong_groupings(self):
        for call in (side_told, told_ties, hidden_many):
            self.refuses_in_order(call, (PATH, (0, 0, 0)), [(1, wrong_groupings(3))])


class TieToldTest(Case):
    """Point 4.9."""

    def expected(self, web, grouping, number):
        """The balance that point 4.9 describes, with the parts and sides found by joining points."""
        tie = web.ties[number]
        couple = tuple(sorted(grouping[point] for point in tie))
        ties = [other for other in web.ties if other != tie
                and tuple(sorted(grouping[point] for point in other)) == couple]
        parts = []
        for point in tie:
            sides = {point: 0}
            calm = True
            for _ in range(web.points + 1):
                for one, other in ties:
                    for start, end in ((one, other), (other, one)):
                        if start in sides:
                            calm = calm and sides.get(end, 1 - sides[start]) == 1 - sides[start]
                            sides.setdefault(end, 1 - sides[start])
            parts.append((calm, sides))
        chosen = parts[0][1] if parts[0][0] else parts[1][1]
        plus = tuple(sorted(point for point in chosen if chosen[point] == 0))
        minus = tuple(sorted(point for point in chosen if chosen[point] == 1))
        times = 2 if tie[0] != tie[1] and tie[1] in parts[0][1] else 1
        return Balance(plus, minus, times, couple)

    def test_each_tie(self):
        times = set()
        for web, grouping in CASES:
            mould, book = web.as_mould(), book_of(grouping)
            told = told_letters(mould, book)
            bottoms = letter_bottoms(mould, book)
            rows = span_rows(mould, book)
            for tie in range(len(web)):
                found = self.taken(tie_told, web, grouping, tie)
                if tie not in told:
                    self.same(found, walk_through(web, grouping, tie))
                    self.assertNotEqual(walk_filling(web, found)[tie], 0)
                    continue
                self.same(found, self.expected(web, grouping, tie))
                self.assertIsNone(balance_fault(web, grouping, tie, found))
                self.assertEqual(found.times, bottoms[tie])
                times.add((found.times, web.ties[tie][0] == web.ties[tie][1], found.groups[0] == found.groups[1]))
                weights = self.taken(balance_weights, web, grouping, found)
                self.assertEqual(weighted(rows, weights, len(web)), list(unit(len(web), tie)))
        # A tie between groups, a bridge and a diagonal within a group, and a tie of an odd ring.
        self.assertEqual(times, {(1, False, False), (1, False, True), (1, True, True), (2, False, True)})

    def test_a_tie_with_times_2_is_told_by_the_odd_moduli(self):
        self.gives((3, 5, 7, 9, 11), told_moduli, TRIANGLE.as_mould(), book_of((0, 0, 0)), 0)

    def test_the_example_of_point_4_11(self):
        rows = span_rows(PATH.as_mould(), book_of((0, 0, 0)))
        self.same(rows, ((1, 1, 0, 0), (0, 1, 1, 0), (0, 0, 1, 1)))
        self.assertEqual(len(all_pieces(PATH, (0, 0, 0))), 1)
        for tie in range(4):
            self.gives(Walk(ROUND, (0, 0)), tie_told, PATH, (0, 0, 0), tie)
        self.gives((2, -2, 2, -2), walk_filling, PATH, side_told(PATH, (0, 0, 0)))
        less = PATH.without_tie((2, 2))
        self.gives(None, side_told, less, (0, 0, 0))
        self.gives((0, 1, 2), told_ties, less, (0, 0, 0))
        self.gives(Balance((1,), (2,), 1, (0, 0)), tie_told, less, (0, 0, 0), 1)
        self.gives(Balance((0, 1), (2,), 2, (0, 0)), tie_told, TRIANGLE, (0, 0, 0), 0)

    def test_errors(self):
        self.refuses_in_order(tie_told, (PATH, (0, 0, 0), 0), [(1, wrong_groupings(3)), (2, TIES)])


class BalanceFaultTest(Case):
    """Point 4.10."""

    def judged(self, word, plus, minus, times, groups, tie=0):
        self.gives(word, balance_fault, TRIANGLE, (0, 0, 0), tie, Balance(plus, minus, times, groups))

    def test_right_balances(self):
        self.judged(None, (0, 1), (2,), 2, (0, 0))
        self.judged(None, [1, 0], [2], 2, (0, 0))
        self.judged(None, (2,), (1, 0), -2, (0, 0))
        web = Web(4, [(0, 1), (0, 3), (1, 2)])
        for plus, minus, times in (((0,), (3,), 1), ((1,), (2,), 1), ([3], [0], -1), ((), (1,), 0)):
            word = "times" if times == 0 else None
            self.gives(word, balance_fault, web, (0, 1, 0, 1), 0, Balance(plus, minus, times, (0, 1)))

    def test_points(self):
        for thing in [*not_sequences(), (3,), [-1], (0, 0), (0, 2), (True,), [None], ((0,),), ["0"], [[0]]]:
            self.judged("points", thing, (2,), 2, (0, 0))
            self.judged("points", (2,), thing, 2, (0, 0))

    def test_times(self):
        for thing in [*not_wholes(), 0]:
            self.judged("times", (0, 1), (2,), thing, (0, 0))

    def test_groups(self):
        for thing in ([0, 0], (0, 1), (0,), (False, 0), None, 0, (0, 0, 0), (0.0, 0)):
            self.judged("groups", (0, 1), (2,), 2, thing)
        web = Web(3, [(0, 1), (1, 2)])
        for plus, minus, word in (((0,), (), None), ((0, 2), (), "groups"), ((), (2,), "groups"), ((1,), (), None)):
            self.gives(word, balance_fault, web, (0, 1, 2), 0, Balance(plus, minus, 1, (0, 1)))
        self.gives("groups", balance_fault, web, (0, 1, 2), 0, Balance((0,), (), 1, (1, 0)))

    def test_letter(self):
        self.judged("letter", (0, 1), (2,), 1, (0, 0))
        self.judged("letter", (0, 1), (2,), -2, (0, 0))
        self.judged("letter", (0, 1), (), 2, (0, 0))
        self.judged("letter", (), (), 2, (0, 0))
        self.judged("letter", (0, 1), (2,), 2, (0, 0), 1)

    def test_two_words_at_once(self):
        self.judged("points", (0, 0), (2,), 0, None)
        self.judged("times", (0, 1), (2,), 0, [0, 0])
        self.judged("groups", (0,), (2,), 2, (1, 1))

    def test_every_balance_of_a_small_web(self):
        web = PATH.without_tie((2, 2))
        rows = span_rows(web.as_mould(), book_of((0, 0, 0)))
        for signs in itertools.product((-1, 0, 1), repeat=3):
            plus, minus = ([at for at in range(3) if signs[at] == sign] for sign in (1, -1))
            sums = [sum(sign * row[at] for sign, row in zip(signs, rows)) for at in range(3)]
            for tie, times in itertools.product(range(3), (-2, -1, 1, 2)):
                right = sums == [times * number for number in unit(3, tie)]
                balance = Balance(plus, minus, times, (0, 0))
                self.gives(None if right else "letter", balance_fault, web, (0, 0, 0), tie, balance)

    def test_errors(self):
        balance = Balance(None, None, None, None)
        wrong = [(1, wrong_groupings(3)), (2, TIES)]
        self.refuses_in_order(balance_fault, (PATH, (0, 0, 0), 0, balance), wrong)
        self.refuses_in_order(balance_weights, (PATH, (0, 0, 0), balance), wrong[:1])


class BalanceWeightsTest(Case):
    """Point 4.10: balance_weights."""

    def test_weights(self):
        half, zero = (1, 2), (0, 1)
        self.gives((half, half, (-1, 2)), balance_weights, TRIANGLE, (0, 0, 0), Balance((0, 1), (2,), 2, (0, 0)))
        self.gives((half, half, (-1, 2)), balance_weights, TRIANGLE, [0, 0, 0], Balance([2], [0, 1], -2, (0, 0)))
        web = Web(3, [(0, 1), (1, 2)])
        expected = (zero, zero, zero, (1, 1), zero, zero, zero, zero, zero)
        self.gives(expected, balance_weights, web, (0, 1, 2), Balance((0,), (), 1, (0, 1)))
        expected = (zero, (1, 1), zero, zero, zero, zero, zero, zero, zero)
        self.gives(expected, balance_weights, balance=Balance((1,), (), 1, (0, 1)), grouping=(0, 1, 2), web=web)

    def test_they_are_weights_in_the_sense_of_part_2(self):
        for web, grouping in CASES[::4]:
            for tie in told_ties(web, grouping):
                balance = tie_told(web, grouping, tie)
                weights = balance_weights(web, grouping, balance)
                self.assertTrue(all(as_fraction(weight).denominator in (1, 2) for weight in weights))
                self.assertIsNone(weights_fault(web.as_mould(), book_of(grouping), tie, Weights(weights)))
