"""Strangers: cells that are other than 0 though the mould has no place there; whether a book sees and finds them."""

from thinslopes.asks import check_book, row_sum, span_rows
from thinslopes.errors import BadStranger, TooMany
from thinslopes.lost import check_most
from thinslopes.lots import has_part, lots_of
from thinslopes.moulds import Mould, check_numbers, is_couple
from thinslopes.ratios import (
    ZERO, as_ratio, is_sequence, lowest_terms, over_one_bottom, ratio_minus, ratio_plus,
)
from thinslopes.recover import Recovered, answer_ratios, fitted
from thinslopes.spans import hidden_basis, made_of, reduced_rows

MOST_OFF_CELLS = 12
MOST_SEEN = 4
MOST_FOUND = 2


class Unseen:
    def __init__(self, numbers, strangers):
        self.numbers = numbers
        self.strangers = strangers


class Filled:
    def __init__(self, numbers, strangers):
        self.numbers = numbers
        self.strangers = strangers


class Twice:
    def __init__(self, first, second):
        self.first = first
        self.second = second


class Explained:
    def __init__(self, strangers, numbers):
        self.strangers = strangers
        self.numbers = numbers


def off_cells(mould):
    cells = [(row, column) for row in range(mould.height) for column in range(mould.width)]
    return tuple([cell for cell in cells if cell not in mould])


def off_rows(mould, book):
    """Return, for each answer, how many times it has each off cell."""
    return span_rows(Mould(mould.height, mould.width, off_cells(mould)), book)


def check_few_off_cells(mould):
    if len(off_cells(mould)) > MOST_OFF_CELLS:
        raise TooMany(MOST_OFF_CELLS)


def is_stranger(mould, thing):
    if not is_sequence(thing) or len(thing) != 2 or as_ratio(thing[1]) is None:
        return False
    return is_couple(thing[0], mould.height, mould.width) and thing[0] not in mould


def check_strangers(mould, strangers):
    """Return the ratio of each off cell among the strangers, as a dict."""
    if not is_sequence(strangers):
        raise BadStranger(0)
    cells = []
    ratios = {}
    for index, stranger in enumerate(strangers):
        if not is_stranger(mould, stranger) or (cells and tuple(stranger[0]) <= cells[-1]):
            raise BadStranger(index)
        cells.append(tuple(stranger[0]))
        ratios[cells[-1]] = as_ratio(stranger[1])
    return ratios


def answers_with(mould, book, numbers, strangers):
    rows = span_rows(mould, book)
    ratios = check_numbers(mould, numbers)
    standing = check_strangers(mould, strangers)
    off_ratios = [standing.get(cell, ZERO) for cell in off_cells(mould)]
    answers = []
    for row, off_row in zip(rows, off_rows(mould, book)):
        answers.append(ratio_plus(row_sum(row, ratios), row_sum(off_row, off_ratios)))
    return tuple(answers)


def rows_behind(rows, width):
    """Return the sums of the rows that are 0 at the first `width` positions, reduced and without these positions."""
    return [row[width:] for row in reduced_rows(rows) if not any([number != 0 for number in row[:width]])]


def unseen_lot(mould, book, most):
    """Return the first and fewest off cells, as indices, with numbers that no filling tells from 0, or None."""
    rows = [[*row, *off_row] for row, off_row in zip(span_rows(mould, book), off_rows(mould, book))]
    conditions = rows_behind(rows, mould.letters_many)
    for size in range(1, most + 1):
        for lot in lots_of(list(range(len(off_cells(mould)))), size):
            basis = hidden_basis([[row[at] for at in lot] for row in conditions], size)
            if basis:
                # No number is 0, since no lesser lot had such numbers.
                return lot, basis[0]
    return None


def unseen_by(mould, book, most):
    """Return an Unseen with at most so many strangers, or None."""
    found = unseen_lot(mould, book, most)
    if found is None:
        return None
    lot, times = found
    added = [made_of([row[at] for at in lot], times) for row in off_rows(mould, book)]
    fit = fitted(span_rows(mould, book), [(-number, 1) for number in added], mould.letters_many)
    numbers, bottom = over_one_bottom(fit.filling)
    cells = off_cells(mould)
    return Unseen(tuple(numbers), tuple([(cells[at], bottom * number) for at, number in zip(lot, times)]))


def seen_strangers(mould, book, most):
    check_book(mould, book)
    check_most(most, MOST_SEEN)
    check_few_off_cells(mould)
    return unseen_by(mould, book, most)


def found_strangers(mould, book, most):
    check_book(mould, book)
    check_most(most, MOST_FOUND)
    check_few_off_cells(mould)
    unseen = unseen_by(mould, book, 2 * most)
    if unseen is None:
        return None
    # With all answers 0, the one part of the strangers has the same answers as the other part turned to negatives.
    others = tuple([(cell, -number) for cell, number in unseen.strangers[most:]])
    return Twice(Filled(unseen.numbers, unseen.strangers[:most]), Filled((0,) * mould.letters_many, others))


def explaining_lots(conditions, cells_many, bottom, most):
    """Return the lots of at most so many off cells that explain least, as indices, each with its strangers' ratios.

    A condition has a number for each off cell and, at the end, `bottom` times what these must make.
    """
    found = []
    wanted = [lowest_terms(row[-1], bottom) for row in conditions]
    for size in range(most + 1):
        for lot in lots_of(list(range(cells_many)), size):
            if not has_part(lot, [other for other, _ in found]):
                fit = fitted([[row[at] for at in lot] for row in conditions], wanted, size)
                if isinstance(fit, Recovered):
                    found.append((lot, fit.filling))
    return found


def less_strangers(ratios, rows, lot, standing):
    """Return the answers less what the strangers of a lot add to them."""
    return [ratio_minus(ratio, row_sum([row[at] for at in lot], standing)) for ratio, row in zip(ratios, rows)]


def explained_by(mould, book, answers, most):
    rows = span_rows(mould, book)
    ratios = answer_ratios(answers, len(rows))
    check_most(most, MOST_FOUND)
    check_few_off_cells(mould)
    many = mould.letters_many
    cells = off_cells(mould)
    off = off_rows(mould, book)
    tops, bottom = over_one_bottom(ratios)
    conditions = rows_behind([[*row, *off_row, top] for row, off_row, top in zip(rows, off, tops)], many)
    found = []
    for lot, standing in explaining_lots(conditions, len(cells), bottom, most):
        numbers = fitted(rows, less_strangers(ratios, off, lot, standing), many).numbers
        found.append(Explained(tuple([(cells[at], ratio) for at, ratio in zip(lot, standing)]), numbers))
    return tuple(found)
