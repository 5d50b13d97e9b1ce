import itertools
import random

from tests.helper import (
    Case, all_webs, lots, not_wholes, random_web, rank_by_fractions, wrong_books, wrong_groupings,
)
from tests.test_evenwalks import PATH, ROUND
from tests.test_reading import BOOK, CASES, MOULD
from tests.test_taking import missing_of
from thinslopes.asks import power_asks, span_rows
from thinslopes.errors import BadMost, TooMany
from thinslopes.evenwalks import Walk
from thinslopes.groupings import all_groupings, book_of
from thinslopes.moulds import Mould
from thinslopes.pieces import all_pieces, odd_ring
from thinslopes.reading import left_letters, read_letters
from thinslopes.sidegroups import side_told
from thinslopes.solving import Ladder, Ring, Solved, letter_ladder, lot_size, side_taken, solved_by
from thinslopes.told import told_letters
from thinslopes.webs import Web

FULL = Mould(6, 6, list(itertools.product(range(6), repeat=2)))
LINE = Mould(2, 5, list(itertools.product(range(2), range(5))))
# The answers 0 + 1, 0 - 1, 1 + 2 + 3, 2 - 3, 2 + 3 are solved in no lots of one letter.
PAIRS = Mould(1, 4, [(0, 0), (0, 1), (0, 2), (0, 3)])
PAIRS_BOOK = [("column", (1, 1, 0, 0)), ("column", (1, -1, 0, 0)), ("column", (0, 1, 1, 1)), ("column", (0, 0, 1, -1))]


def answers_in(rows, known, lot):
    """The answers with left letters, all of them in the lot."""
    lefts = [{at for at, number in enumerate(row) if number and at not in known} for row in rows]
    return tuple(answer for answer, left in enumerate(lefts) if left and left <= set(lot))


def is_solvable(rows, known, lot):
    within = [[rows[answer][at] for at in lot] for answer in answers_in(rows, known, lot)]
    return rank_by_fractions(within) == len(lot)


def solved_letters(mould, book, most, order):
    """All letters solved, with the lots gone through in this order of their sizes."""
    rows = span_rows(mould, book)
    known = set()
    again = True
    while again:
        again = False
        for size in order:
            for lot in itertools.combinations([at for at in range(mould.letters_many) if at not in known], size):
                if size <= most and not again and is_solvable(rows, known, lot):
                    known.update(lot)
                    again = True
    return tuple(sorted(known))


class SolvedByTest(Case):
    """Point 5.11."""

    def right(self, mould, book, most, solved):
        """Each step can be done and bears all its answers, and no lot of so many letters can be solved behind them."""
        rows = span_rows(mould, book)
        known = []
        for lot, answers in solved.steps:
            self.assertTrue(1 <= len(lot) <= most)
            self.assertEqual(lot, tuple(sorted(set(lot) - set(known))))
            self.assertEqual(answers, answers_in(rows, known, lot))
            self.assertTrue(is_solvable(rows, known, lot))
            known.extend(lot)
        self.assertEqual(solved.letters, tuple(sorted(known)))
        for lot in lots([at for at in range(mould.letters_many) if at not in known]):
            if 1 <= len(lot) <= most:
                self.assertFalse(is_solvable(rows, known, lot))

    def test_lots_of_each_size(self):
        sizes = set()
        for mould, book in CASES:
            if mould.letters_many > 7:
                continue
            for most in (1, 2, 3, 10):
                solved = self.taken(solved_by, mould, book, most)
                self.right(mould, book, most, solved)
                sizes.update(len(lot) for lot, answers in solved.steps)
                if most == 3:
                    self.same(solved_letters(mould, book, 3, (3, 2, 1)), solved.letters)
        self.assertLessEqual({1, 2}, sizes)

    def test_lots_of_one_letter_are_takings(self):
        for mould, book in CASES:
            missing = missing_of(mould, book)
            taken = tuple(at for at in range(mould.letters_many) if at not in missing)
            self.same(solved_by(mould, book, 1).letters, taken)

    def test_a_lot_that_can_be_solved_only_together(self):
        self.same(vars(solved_by(PAIRS, PAIRS_BOOK, 1)), {"steps": (), "letters": ()})
        expected = Solved((((0, 1), (0, 1)), ((2, 3), (2, 3))), (0, 1, 2, 3))
        self.gives(expected, solved_by, PAIRS, PAIRS_BOOK, 2)
        self.right(PAIRS, PAIRS_BOOK, 4, solved_by(most=4, book=PAIRS_BOOK, mould=PAIRS))
        triangle = Web(3, [(0, 1), (0, 2), (1, 2)]).as_mould()
        self.gives(Solved((), ()), solved_by, triangle, book_of((0, 0, 0)), 2)
        self.gives(Solved((((0, 1, 2), (0, 1, 2)),), (0, 1, 2)), solved_by, triangle, book_of((0, 0, 0)), 3)

    def test_edges(self):
        self.gives(Solved((), ()), solved_by, Mould(1, 1, []), [("row", (1,))], 10)
        self.gives(Solved((), ()), solved_by, PAIRS, [], 10)
        self.gives(Solved((), ()), solved_by, FULL, [], 1)

    def test_more_than_10_letters_missing(self):
        book = power_asks("column", 6, 2)
        self.gives(Solved((), ()), solved_by, Mould(2, 6, FULL.cells[:12]), book, 1)
        for most in (2, 10):
            self.refuses(TooMany(10), solved_by, Mould(2, 6, FULL.cells[:12]), book, most)
        # The answers of column 0 alone take six letters; with them 10 are left.
        mould = Mould(6, 6, [*FULL.cells[:12], *[(row, 0) for row in range(2, 6)]])
        self.assertEqual(len(missing_of(mould, [("column", (1, 0, 0, 0, 0, 0))])), 10)
        self.assertEqual(len(solved_by(mould, [("column", (1, 0, 0, 0, 0, 0))], 10).letters), 6)

    def test_10_letters_missing(self):
        for book in (power_asks("column", 5, 5), power_asks("column", 5, 4)):
            self.assertEqual(len(missing_of(LINE, book)), 10)
            solved = solved_by(LINE, book, 10)
            self.same(solved.letters, told_letters(LINE, book))

    def test_errors(self):
        most = [(thing, BadMost(thing)) for thing in [*not_wholes(), 0, -1, 11, [1]]]
        self.refuses_in_order(solved_by, (MOULD, BOOK, 1), [(1, wrong_books(MOULD)), (2, most)])
        self.refuses_in_order(solved_by, (FULL, [], 1), [(2, most)])


class LotSizeTest(Case):
    """Point 5.12."""

    def test_the_least_most(self):
        found = set()
        for mould, book in CASES:
            if mould.letters_many > 7:
                continue
            many = mould.letters_many
            able = [most for most in range(1, 8) if len(solved_by(mould, book, most).letters) == many]
            if many == 0:
                expected = 0
            elif len(told_letters(mould, book)) < many:
                expected = None
                self.assertEqual(able, [])
            else:
                expected = able[0]
            found.add(expected)
            self.gives(expected, lot_size, mould, book)
        self.assertLessEqual({0, None, 1, 2}, found)

    def test_examples(self):
        self.gives(2, lot_size, PAIRS, PAIRS_BOOK)
        # Column 0 stands in the first of the asks of powers alone, so the other four of a row come first.
        self.gives(4, lot_size, LINE, power_asks("column", 5, 5))
        self.gives(5, lot_size, LINE, [("column", [(base + 1) ** power for base in range(5)]) for power in range(5)])
        self.gives(None, lot_size, PAIRS, [])
        self.gives(0, lot_size, mould=Mould(3, 3, []), book=[])

    def test_more_than_10_letters_missing(self):
        mould = Mould(2, 6, FULL.cells[:12])
        self.gives(None, lot_size, mould, power_asks("column", 6, 3))
        self.refuses(TooMany(10), lot_size, mould, power_asks("column", 6, 8))
        self.gives(None, lot_size, FULL, [])

    def test_errors(self):
        for call in (lot_size, letter_ladder):
            self.refuses_in_order(call, (MOULD, BOOK), [(1, wrong_books(MOULD))])


class LadderTest(Case):
    """Point 5.12."""

    def test_each_tuple_contains_the_one_before(self):
        steps = set()
        for mould, book in CASES:
            missing = missing_of(mould, book)
            if len(missing) > 10:
                self.refuses(TooMany(10), letter_ladder, mould, book)
                continue
            read = tuple(letter for letter, answer in read_letters(mould, book))
            taken = tuple(at for at in range(mould.letters_many) if at not in missing)
            solved = solved_by(mould, book, 10).letters
            told = told_letters(mould, book)
            self.gives(Ladder(read, taken, solved, told), letter_ladder, mould, book)
            self.assertTrue(set(read) <= set(taken) <= set(solved) <= set(told))
            if len(told) == mould.letters_many:
                self.assertEqual(solved, told)
            steps.add((read == taken, taken == solved, solved == told))
        self.assertGreater(len(steps), 3)

    def test_more_than_10_letters_missing(self):
        self.refuses(TooMany(10), letter_ladder, FULL, [])
        self.refuses(TooMany(10), letter_ladder, Mould(2, 6, FULL.cells[:12]), power_asks("column", 6, 8))
        self.gives(Ladder((), (), (), ()), letter_ladder, Mould(2, 6, FULL.cells[:10]), [])
        self.gives(Ladder((), (), (0, 1, 2, 3), (0, 1, 2, 3)), letter_ladder, mould=PAIRS, book=PAIRS_BOOK)


class SideTakenTest(Case):
    """Point 5.13."""

    def cases(self):
        chance = random.Random(95)
        cases = [(web, grouping) for web in all_webs(3) for grouping in all_groupings(3)]
        for _ in range(40):
            web = random_web(chance, chance.randint(4, 6), 0.3)
            cases += [(web, grouping) for grouping in [(0,) * web.points, *chance.sample(list(all_groupings(4)), 2)]
                      if len(grouping) == web.points]
        return cases

    def test_against_taking_away(self):
        kinds = set()
        for web, grouping in self.cases():
            mould, book = web.as_mould(), book_of(grouping)
            found = self.taken(side_taken, web, grouping)
            kinds.add(type(found))
            self.assertIs(found is None, missing_of(mould, book) == ())
            walk = side_told(web, grouping)
            rings = [odd_ring(web, piece) for piece in all_pieces(web, grouping)]
            rings = [ring for ring in rings if ring and len(ring) >= 3]
            if walk is not None:
                self.same(found, walk)
            else:
                self.same(found, Ring(min(rings)) if rings else None)
                size = max([len(ring) for ring in rings], default=1) if len(web) else 0
                self.gives(size, lot_size, mould, book)
        self.assertEqual(kinds, {type(None), Walk, Ring})

    def test_rings(self):
        for points in (3, 5):
            ring = Web(points, sorted([(at, at + 1) for at in range(points - 1)] + [(0, points - 1)]))
            self.gives(Ring(tuple(range(points))), side_taken, ring, [0] * points)
            self.gives(points, lot_size, ring.as_mould(), book_of([0] * points))
        two = Web(6, [(0, 3), (0, 4), (1, 2), (1, 5), (2, 5), (3, 4)])
        self.gives(Ring((0, 3, 4)), side_taken, two, (0, 1, 1, 0, 0, 1))
        self.gives(Ring((0, 3, 4)), side_taken, grouping=[0] * 6, web=two)

    def test_a_walk_and_none(self):
        self.gives(Walk(ROUND, (0, 0)), side_taken, PATH, (0, 0, 0))
        self.gives(None, side_taken, PATH.without_tie((2, 2)), (0, 0, 0))
        self.gives(None, side_taken, PATH, (0, 1, 2))
        self.gives(None, side_taken, Web(2, []), (0, 0))
        self.gives(None, side_taken, Web(1, [(0, 0)]), (0,))

    def test_wrong_groupings(self):
        self.refuses_in_order(side_taken, (PATH, (0, 0, 0)), [(1, wrong_groupings(3))])
