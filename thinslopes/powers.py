"""Column asks of free moulds: asks of powers, and columns that are dependent."""

from thinslopes.asks import check_book
from thinslopes.errors import BadCount, NotColumns
from thinslopes.groups import check_free, columns_by_row
from thinslopes.lots import lots_of
from thinslopes.moulds import check_letter
from thinslopes.ratios import ZERO, is_whole, lowest_terms, over_one_bottom, unshared
from thinslopes.spans import Weights, hidden_basis
from thinslopes.told import Hidden

MOST_COUNT = 6


class Fewest:
    def __init__(self, count, row):
        self.count = count
        self.row = row


class Dependent:
    def __init__(self, row, numbers):
        self.row = row
        self.numbers = numbers


def check_asks_many(count):
    if not is_whole(count, 0, MOST_COUNT):
        raise BadCount(unshared(count))


def fewest_columns(mould):
    check_free(mould)
    counts = [len(columns) for columns in columns_by_row(mould)]
    most = max(counts)
    return Fewest(most, counts.index(most) if most > 0 else None)


def unit_polynomial(columns, chosen):
    """Return, by ascending powers, the least polynomial that is 1 at the chosen column and 0 at the others."""
    tops = [1]
    bottom = 1
    for column in columns:
        if column != chosen:
            tops = [raised - column * kept for raised, kept in zip([0, *tops], [*tops, 0])]
            bottom *= chosen - column
    return [lowest_terms(top, bottom) for top in tops]


def power_weights(mould, count, row, column, columns):
    weights = [ZERO] * (count * mould.height)
    for power, ratio in enumerate(unit_polynomial(columns, column)):
        weights[power * mould.height + row] = ratio
    return Weights(tuple(weights))


def power_hidden(mould, row, column, others):
    """Return the filling that is hidden by as many asks of powers as there are others."""
    chosen = [column, *others]
    ratios = []
    for one in chosen:
        bottom = 1
        for other in chosen:
            bottom *= one - other if one != other else 1
        ratios.append(lowest_terms(1, bottom))
    wholes, _ = over_one_bottom(ratios)
    numbers = [0] * mould.letters_many
    for one, whole in zip(chosen, wholes):
        numbers[mould.letter_at(row, one)] = whole if wholes[0] > 0 else -whole
    return Hidden(tuple(numbers))


def power_told(mould, count, letter):
    check_asks_many(count)
    check_letter(mould, letter)
    check_free(mould)
    row, column = mould.cells[letter]
    columns = columns_by_row(mould)[row]
    if len(columns) <= count:
        return power_weights(mould, count, row, column, columns)
    return power_hidden(mould, row, column, [other for other in columns if other != column][:count])


def check_columns(mould, book):
    """Return the numbers of the asks of a book of column asks alone."""
    asks = check_book(mould, book)
    for index, (kind, _) in enumerate(asks):
        if kind != "column":
            raise NotColumns(index)
    return [numbers for _, numbers in asks]


def dependence(asks, columns):
    """Return whole numbers, one a column, that show that the columns are dependent, or None."""
    basis = hidden_basis([[numbers[column] for column in columns] for numbers in asks], len(columns))
    return basis[0] if basis else None


def columns_told(mould, book):
    asks = check_columns(mould, book)
    check_free(mould)
    for row, columns in enumerate(columns_by_row(mould)):
        times = dependence(asks, columns)
        if times is not None:
            numbers = [0] * mould.width
            for column, number in zip(columns, times):
                numbers[column] = number
            return Dependent(row, tuple(numbers))
    return None


def dependent_lot(mould, book, many):
    asks = check_columns(mould, book)
    check_asks_many(many)
    columns = list(range(mould.width))
    for size in range(1, many + 1):
        for lot in lots_of(columns, size):
            if dependence(asks, lot) is not None:
                return lot
    return None
