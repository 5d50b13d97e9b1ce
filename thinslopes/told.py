"""Letters that follow from the answers of a book, by weights, and letters that do not, by hidden fillings."""

from thinslopes.asks import row_sum, span_rows
from thinslopes.moulds import check_letter
from thinslopes.ratios import ZERO, as_ratios
from thinslopes.spans import hidden_basis, turned_rows, unit_row, weights_for


class Hidden:
    def __init__(self, numbers):
        self.numbers = numbers


def weighted_row(rows, ratios, width):
    """Return the sum of the rows by these weights, a ratio for each of the `width` positions."""
    return tuple([row_sum(column, ratios) for column in turned_rows(rows, width)])


def first_hidden(basis, letter):
    """Return the first hidden filling in which the number of the letter is not 0, or None."""
    for numbers in basis:
        if numbers[letter] != 0:
            return Hidden(numbers)
    return None


def hidden_on(rows, letters, many):
    """Return a filling of `many` letters, hidden from the rows, that is not 0 at these letters alone, or None."""
    basis = hidden_basis([[row[letter] for letter in letters] for row in rows], len(letters))
    if not basis:
        return None
    numbers = [0] * many
    for letter, number in zip(letters, basis[0]):
        numbers[letter] = number
    return tuple(numbers)


def told_by(mould, book, letter):
    rows = span_rows(mould, book)
    many = mould.letters_many
    weights = weights_for(rows, unit_row(many, check_letter(mould, letter)))
    return first_hidden(hidden_basis(rows, many), letter) if weights is None else weights


def weights_fault(mould, book, letter, weights):
    rows = span_rows(mould, book)
    many = mould.letters_many
    unit = unit_row(many, check_letter(mould, letter))
    ratios = as_ratios(weights.row, len(rows))
    if ratios is None:
        return "many"
    return None if weighted_row(rows, ratios, many) == as_ratios(unit, many) else "letter"


def hidden_fault(mould, book, letter, hidden):
    rows = span_rows(mould, book)
    check_letter(mould, letter)
    ratios = as_ratios(hidden.numbers, mould.letters_many)
    if ratios is None:
        return "many"
    if any([row_sum(row, ratios) != ZERO for row in rows]):
        return "answer"
    return "letter" if ratios[letter] == ZERO else None


def hidden_all(mould, book):
    return hidden_basis(span_rows(mould, book), mould.letters_many)


def told_letters(mould, book):
    basis = hidden_all(mould, book)
    return tuple([letter for letter in range(mould.letters_many) if first_hidden(basis, letter) is None])


def tells_all(mould, book):
    return hidden_all(mould, book) == ()
