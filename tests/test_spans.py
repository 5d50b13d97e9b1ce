import itertools
import random
from math import gcd

from tests.helper import Case, as_fraction, is_told, rank_by_fractions, unit, weighted
from thinslopes.asks import span_rows
from thinslopes.moulds import Mould
from thinslopes.ratios import is_ratio
from thinslopes.spans import Weights, hidden_basis, rank_of, reduced_rows, weights_for


def some_rows():
    """Couples of rows and their width: all small ones, and larger ones by chance, with sums of rows before them."""
    found = [([], 0), ([], 3), ([()], 0), ([(), ()], 0), ([(0, 0)], 2), ([[0], [0], [0]], 1)]
    for width in (1, 2):
        for many in (1, 2):
            for numbers in itertools.product((-2, -1, 0, 1, 3), repeat=width * many):
                found.append(([numbers[at:at + width] for at in range(0, len(numbers), width)], width))
    chance = random.Random(21)
    for _ in range(150):
        width = chance.randint(1, 6)
        rows = [[chance.randint(-4, 4) for _ in range(width)] for _ in range(chance.randint(1, 4))]
        for _ in range(chance.randint(0, 3)):
            times = [chance.randint(-2, 2) for _ in rows]
            rows.append([sum(number * row[at] for number, row in zip(times, rows)) for at in range(width)])
        chance.shuffle(rows)
        found.append((rows, width))
    return found


SOME = some_rows()


class ReducedTest(Case):
    """Points 2.1 and 2.2: reduced_rows and rank_of."""

    def is_reduced(self, rows):
        """The reduced form item by item as point 2.2 tells it."""
        leads = []
        for row in rows:
            self.assertTrue(any(row))
            lead = [number != 0 for number in row].index(True)
            self.assertGreater(row[lead], 0)
            self.assertEqual([other[lead] for other in rows if other != row], [0] * (len(rows) - 1))
            self.assertEqual(gcd(*row), 1)
            leads.append(lead)
        self.assertEqual(leads, sorted(set(leads)))

    def test_reduced_rows(self):
        for rows, width in SOME:
            reduced = self.taken(reduced_rows, rows)
            self.is_reduced(reduced)
            many = rank_by_fractions(rows)
            # As many rows, and no more together with the given ones: the same sums.
            self.assertEqual((len(reduced), rank_by_fractions([*rows, *reduced])), (many, many))
            self.gives(many, rank_of, rows)

    def test_they_are_the_one_such_tuple(self):
        chance = random.Random(22)
        for rows, width in SOME[-60:]:
            others = [[3 * number for number in row] for row in rows]
            chance.shuffle(others)
            others.append([a - b for a, b in zip(others[0], others[-1])])
            self.gives(reduced_rows(rows), reduced_rows, tuple(others))

    def test_examples(self):
        self.gives(((1, 0, 2), (0, 2, -1)), reduced_rows, [(2, 2, 3), [-1, 2, -3]])
        self.gives(((1, 2),), reduced_rows, ((-3, -6), (0, 0), (5, 10)))
        self.gives(((0, 0, 1),), reduced_rows, [(0, 0, -7)])

    def test_no_rows_rows_of_width_0_and_rows_of_zeros(self):
        for rows in ([], (), [()], ((), [], ()), [(0,)], [[0, 0], (0, 0)]):
            self.gives((), reduced_rows, rows)
            self.gives(0, rank_of, rows)

    def test_great_numbers(self):
        great = 10 ** 9
        self.gives(((1, 0), (0, 1)), reduced_rows, [(great, great - 1), (great - 1, great - 2)])
        chance = random.Random(23)
        rows = [[chance.randint(-great, great) for _ in range(36)] for _ in range(48)]
        self.gives(tuple(unit(36, at) for at in range(36)), reduced_rows, rows)
        self.gives(36, rank_of, rows)


class WeightsForTest(Case):
    """Point 2.2: weights_for."""

    def made(self, rows, row):
        weights = self.taken(weights_for, rows, row)
        if weights is None:
            return False
        self.assertIs(type(weights), Weights)
        self.assertEqual(len(weights.row), len(rows))
        self.assertTrue(all(is_ratio(weight) for weight in weights.row))
        self.assertEqual(weighted(rows, weights.row, len(row)), [as_fraction(number) for number in row])
        return True

    def test_sums_of_rows_and_others(self):
        for rows, width in SOME:
            if rows:
                for row in [*itertools.product((-1, 0, 2), repeat=min(width, 2)), (1, 2, 0, -1, 3, 1)[:width]]:
                    row = tuple(row) + (0,) * (width - len(row))
                    same = rank_by_fractions([*rows, row]) == rank_by_fractions(rows)
                    self.assertIs(self.made(rows, row), same)
                for times in ((1, -2, 0, 1, 3, -1, 2), (0, 3, 3, 5, 0, 1, 1)):
                    self.assertTrue(self.made(rows, [int(number) for number in weighted(rows, times, width)]))

    def test_no_rows(self):
        for rows in ([], ()):
            for row in ((), [0], (0, 0, 0), [0] * 9):
                self.gives(Weights(()), weights_for, rows, row)
            for row in ([1], (0, 0, -2), [0] * 9 + [5]):
                self.gives(None, weights_for, rows, row)

    def test_rows_of_zeros_and_of_width_0(self):
        self.assertTrue(self.made([(), ()], ()))
        self.assertTrue(self.made([(0, 0), [0, 0]], (0, 0)))
        self.assertFalse(self.made([(0, 0), [0, 0]], (0, 1)))

    def test_halves(self):
        rows = [(1, 1, 0), (1, 0, 1), (0, 1, 1)]
        self.gives(Weights(((1, 2), (1, 2), (-1, 2))), weights_for, rows, (1, 0, 0))
        self.gives(Weights(((1, 2), (5, 2))), weights_for, [(2, 0), [0, 2]], [1, 5])
        self.gives(Weights(((-1, 3),)), weights_for, ([-3],), (1,))


class HiddenBasisTest(Case):
    """Point 2.2: hidden_basis."""

    def test_hidden_rows(self):
        for rows, width in SOME:
            basis = self.taken(hidden_basis, rows, width)
            for hidden in basis:
                self.assertEqual(len(hidden), width)
                self.assertEqual([sum(a * b for a, b in zip(hidden, row)) for row in rows], [0] * len(rows))
            self.assertEqual(len(basis), width - rank_by_fractions(rows))
            self.same(basis, reduced_rows(basis))

    def test_every_row_that_makes_0_is_a_sum_of_them(self):
        rows = [(1, 2, -1), (2, 4, -2)]
        basis = hidden_basis(rows, 3)
        for row in itertools.product(range(-3, 4), repeat=3):
            makes_0 = row[0] + 2 * row[1] - row[2] == 0
            self.assertIs(weights_for(basis, row) is not None, makes_0)

    def test_no_rows_and_width_0(self):
        self.gives((), hidden_basis, [], 0)
        self.gives((), hidden_basis, [(), ()], 0)
        self.gives(((1, 0, 0), (0, 1, 0), (0, 0, 1)), hidden_basis, (), 3)
        self.gives(((1, 0), (0, 1)), hidden_basis, [[0, 0]], 2)
        self.gives(((1, -1, 0), (0, 0, 1)), hidden_basis, [[2, 2, 0]], 3)


class WeightsTest(Case):
    """Point 0.8: a result keeps the very things that it is given and checks nothing."""

    def test_weights(self):
        for thing in ([1], (1, 2), None, "x"):
            self.assertIs(Weights(thing).row, thing)
            self.assertEqual(vars(Weights(row=thing)), {"row": thing})

    def test_unlike_rows_of_a_span(self):
        mould = Mould(2, 2, [(0, 0), (0, 1), (1, 1)])
        rows = span_rows(mould, [("column", (1, 1)), ("row", (1, 1))])
        for letter in range(3):
            self.assertIs(weights_for(rows, unit(3, letter)) is not None, is_told(mould, rows, letter))
