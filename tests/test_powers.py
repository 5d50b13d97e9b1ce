import itertools
import random
from fractions import Fraction
from math import gcd

from tests.helper import (
    Case, as_ratios, is_told, lots, not_wholes, random_book, random_mould, rank_by_fractions,
    wrong_books, wrong_letters,
)
from thinslopes.asks import power_asks, span_rows
from thinslopes.errors import BadCount, NotColumns, NotFree
from thinslopes.groupings import groups_many
from thinslopes.groups import fewest_groups
from thinslopes.moulds import Mould
from thinslopes.powers import (
    Dependent, Fewest, columns_told, dependent_lot, fewest_columns, power_told,
)
from thinslopes.spans import Weights
from thinslopes.told import Hidden, hidden_fault, tells_all, weights_fault

SHARED = Mould(2, 2, [(0, 0), (0, 1), (1, 1)], [0, 1, 0])
SIX = Mould(3, 3, [(0, 0), (0, 1), (1, 0), (1, 2), (2, 1), (2, 2)])
FULL = Mould(6, 6, list(itertools.product(range(6), repeat=2)))
COUNTS = [(thing, BadCount(thing)) for thing in [*not_wholes(), -1, 7, [2]]]


def free_moulds():
    chance = random.Random(71)
    found = [Mould(2, 3, lot) for lot in lots(list(itertools.product(range(2), range(3))))]
    for _ in range(40):
        found.append(random_mould(chance, chance.randint(1, 6), chance.randint(1, 6), False, chance.random()))
    return found


MOULDS = free_moulds()


def row_columns(mould, line):
    return [column for row, column in mould.cells if row == line]


class FewestColumnsTest(Case):
    """Point 3.6."""

    def test_the_most_places_of_a_row(self):
        for mould in MOULDS:
            counts = [len(row_columns(mould, row)) for row in range(mould.height)]
            most = max(counts)
            self.gives(Fewest(most, counts.index(most) if most else None), fewest_columns, mould)
            self.assertIs(tells_all(mould, power_asks("column", mould.width, most)), True)
            self.assertLessEqual(most, groups_many(fewest_groups(mould)))

    def test_no_book_of_fewer_asks_tells_all(self):
        chance = random.Random(72)
        for mould in MOULDS:
            count = fewest_columns(mould).count
            for _ in range(3 if count else 0):
                book = random_book(chance, mould, count - 1, 9, ("column",))
                self.assertIs(tells_all(mould, book), False)

    def test_edges(self):
        self.gives(Fewest(0, None), fewest_columns, Mould(3, 2, []))
        self.gives(Fewest(6, 0), fewest_columns, mould=FULL)
        self.gives(Fewest(2, 1), fewest_columns, Mould(3, 3, [(0, 0), (1, 0), (1, 2), (2, 1), (2, 2)]))
        self.refuses(NotFree(), fewest_columns, SHARED)


class PowerToldTest(Case):
    """Points 3.7 to 3.9."""

    def weights(self, mould, count, row, column):
        """The polynomial of point 3.8 by solving for its numbers."""
        columns = row_columns(mould, row)
        numbers = [Fraction(0)] * 6
        # The product of (x - other) over the others, divided by its number at the column.
        product = [Fraction(1)]
        for other in columns:
            if other != column:
                product = [a - other * b for a, b in zip([0, *product], [*product, 0])]
        at_column = sum(number * column ** power for power, number in enumerate(product))
        for power, number in enumerate(product):
            numbers[power] = number / at_column
        for other in columns:
            self.assertEqual(sum(n * other ** power for power, n in enumerate(numbers)), int(other == column))
        return as_ratios(
            numbers[power] if line == row else Fraction(0) for power in range(count) for line in range(mould.height)
        )

    def hidden(self, mould, count, row, column):
        """By point 3.9."""
        others = [other for other in row_columns(mould, row) if other != column]
        chosen = [column, *others[:count]]
        found = [Fraction(0)] * len(mould)
        for one in chosen:
            product = 1
            for other in chosen:
                product *= one - other if other != one else 1
            found[mould.letter_at(row, one)] = Fraction(1, product)
        numbers = [number / found[mould.letter_at(row, column)] for number in found]
        bottom = 1
        for number in numbers:
            bottom = bottom * number.denominator // gcd(bottom, number.denominator)
        wholes = [int(number * bottom) for number in numbers]
        return tuple(number // gcd(*wholes) for number in wholes)

    def test_each_letter_and_count(self):
        for mould in MOULDS:
            for count in range(7):
                book = power_asks("column", mould.width, count)
                rows = span_rows(mould, book)
                for letter, (row, column) in enumerate(mould.cells):
                    found = self.taken(power_told, mould, count, letter)
                    told = len(row_columns(mould, row)) <= count
                    if len(mould) < 12:
                        self.assertIs(is_told(mould, rows, letter), told)
                    if told:
                        self.same(found, Weights(self.weights(mould, count, row, column)))
                        self.assertIsNone(weights_fault(mould, book, letter, found))
                    else:
                        self.same(found, Hidden(self.hidden(mould, count, row, column)))
                        self.assertIsNone(hidden_fault(mould, book, letter, found))
                        self.assertGreater(found.numbers[letter], 0)

    def test_a_count_of_0_and_of_6(self):
        self.gives(Hidden((0, 1, 0, 0, 0, 0)), power_told, SIX, 0, 1)
        self.gives(Hidden((1,)), power_told, Mould(1, 1, [(0, 0)]), 0, 0)
        self.gives(Weights(((1, 1), *[(0, 1)] * 5)), power_told, letter=0, count=6, mould=Mould(1, 1, [(0, 0)]))
        self.assertIs(type(power_told(FULL, 6, 35)), Weights)
        self.gives(Hidden((0,) * 30 + (-1, 5, -10, 10, -5, 1)), power_told, FULL, 5, 35)

    def test_errors(self):
        wrong = [(1, COUNTS), (2, wrong_letters(SIX))]
        self.refuses_in_order(power_told, (SIX, 2, 0), wrong)
        wrong = [(1, COUNTS), (2, wrong_letters(SHARED)), (0, [(SHARED, NotFree())])]
        self.refuses_in_order(power_told, (SHARED, 2, 0), wrong)

    def test_the_example_of_point_3_12(self):
        self.gives((0, 1, 2), fewest_groups, SIX)
        self.gives(Fewest(2, 0), fewest_columns, SIX)
        self.assertEqual(power_asks("column", 3, 2), (("column", (1, 1, 1)), ("column", (0, 1, 2))))
        self.assertIs(tells_all(SIX, power_asks("column", 3, 2)), True)
        zero = (0, 1)
        self.gives(Weights(((1, 1), zero, zero, (-1, 1), zero, zero)), power_told, SIX, 2, 0)
        self.gives(Hidden((1, -1, 0, 0, 0, 0)), power_told, SIX, 1, 0)


def not_columns(mould):
    row, column = ("row", (0,) * mould.height), ["column", [1] * mould.width]
    found = [([row], NotColumns(0)), ((column, row), NotColumns(1)), ([column, column, row, row], NotColumns(2))]
    return [*wrong_books(mould), *found]


class ColumnsToldTest(Case):
    """Point 3.10."""

    def test_against_what_the_book_tells(self):
        chance = random.Random(73)
        kinds = {True: 0, False: 0}
        for mould in MOULDS:
            for most in (2, 5, 8):
                book = random_book(chance, mould, most, 2, ("column",))
                found = self.taken(columns_told, mould, book)
                kinds[found is None] += 1
                self.assertIs(tells_all(mould, book), found is None)
                by_row = []
                for row in range(mould.height):
                    columns = row_columns(mould, row)
                    numbers = [[asked[column] for column in columns] for kind, asked in book]
                    by_row.append(rank_by_fractions(numbers) < len(columns))
                if found is None:
                    self.assertFalse(any(by_row))
                else:
                    self.assertEqual(found.row, by_row.index(True))
                    self.right(mould, book, found)
        self.assertGreater(min(kinds.values()), 10)

    def right(self, mould, book, found):
        self.assertIs(type(found), Dependent)
        self.assertEqual([type(number) for number in found.numbers], [int] * mould.width)
        self.assertTrue(any(found.numbers))
        for column, number in enumerate(found.numbers):
            if (found.row, column) not in mould.cells:
                self.assertEqual(number, 0)
        for kind, asked in book:
            self.assertEqual(sum(a * b for a, b in zip(asked, found.numbers)), 0)

    def test_the_empty_book(self):
        self.gives(None, columns_told, Mould(2, 2, []), [])
        found = self.taken(columns_told, Mould(3, 3, [(1, 2)]), [])
        self.assertEqual(found.row, 1)
        self.assertNotEqual(found.numbers[2], 0)
        self.right(Mould(3, 3, [(1, 2)]), [], found)

    def test_examples(self):
        self.gives(None, columns_told, SIX, power_asks("column", 3, 2))
        found = self.taken(columns_told, mould=SIX, book=[["column", [1, 2, 3]]])
        self.assertEqual((found.row, 2 * found.numbers[1] + found.numbers[0]), (0, 0))
        self.gives(None, columns_told, FULL, power_asks("column", 6, 6))
        self.assertEqual(columns_told(FULL, power_asks("column", 6, 5)).row, 0)

    def test_errors(self):
        self.refuses_in_order(columns_told, (SIX, []), [(1, not_columns(SIX))])
        self.refuses_in_order(columns_told, (SHARED, []), [(1, not_columns(SHARED)), (0, [(SHARED, NotFree())])])


class DependentLotTest(Case):
    """Point 3.11."""

    def expected(self, width, book, many):
        for size in range(1, many + 1):
            for lot in itertools.combinations(range(width), size):
                if rank_by_fractions([[asked[column] for column in lot] for kind, asked in book]) < size:
                    return lot
        return None

    def test_against_all_lots(self):
        chance = random.Random(74)
        found = set()
        for _ in range(120):
            mould = random_mould(chance, 2, chance.randint(1, 6))
            book = random_book(chance, mould, chance.choice((3, 8)), chance.choice((1, 2, 9)), ("column",))
            for many in range(7):
                lot = self.expected(mould.width, book, many)
                self.gives(lot, dependent_lot, mould, book, many)
                found.add(None if lot is None else len(lot))
        self.assertLessEqual({None, 1, 2, 3}, found)

    def test_it_is_none_exactly_if_the_book_tells_every_such_mould(self):
        chance = random.Random(75)
        for _ in range(30):
            book = random_book(chance, Mould(1, 4, []), 4, 1, ("column",))
            for many in range(5):
                tells = all(tells_all(Mould(1, 4, [(0, column) for column in lot]), book)
                            for lot in lots(range(4)) if len(lot) <= many)
                self.assertIs(dependent_lot(Mould(1, 4, []), book, many) is None, tells)

    def test_the_books_of_powers(self):
        for width in range(1, 7):
            for many in range(7):
                self.gives(None, dependent_lot, Mould(1, width, []), power_asks("column", width, many), many)
        self.gives((0, 1, 2), dependent_lot, Mould(1, 4, []), power_asks("column", 4, 2), 3)

    def test_edges(self):
        self.gives((0,), dependent_lot, SIX, [], 1)
        self.gives(None, dependent_lot, SIX, [], 0)
        self.gives((2,), dependent_lot, many=6, book=[["column", [1, 5, 0]]], mould=SIX)
        book = [("column", (1, 0, 2)), ("column", [0, 3, 0])]
        self.gives((0, 2), dependent_lot, SHARED.beside(Mould(1, 1, [])), book, 2)
        self.gives((1,), dependent_lot, SHARED, [("column", (1, 0))], 1)

    def test_errors(self):
        for mould in (SIX, SHARED):
            self.refuses_in_order(dependent_lot, (mould, [], 2), [(1, not_columns(mould)), (2, COUNTS)])
