"""Numbers that follow from given answers, answers that clash, and books that give the answers of others."""

from thinslopes.asks import row_sum, span_rows
from thinslopes.errors import BadAnswers
from thinslopes.ratios import ZERO, as_ratio, as_ratios, is_sequence, lowest_terms, over_one_bottom
from thinslopes.spans import (
    cleared_rows, hidden_basis, made_of, reduced_rows, traced_rows, turned_rows, weights_by,
)
from thinslopes.told import weighted_row


class Recovered:
    def __init__(self, numbers, filling):
        self.numbers = numbers
        self.filling = filling


class Clash:
    def __init__(self, weights):
        self.weights = weights


class Given:
    def __init__(self, rows):
        self.rows = rows


class Parted:
    def __init__(self, answer, numbers):
        self.answer = answer
        self.numbers = numbers


def answer_ratios(answers, many):
    if not is_sequence(answers) or len(answers) != many:
        raise BadAnswers(0, "many")
    ratios = [as_ratio(answer) for answer in answers]
    if None in ratios:
        raise BadAnswers(ratios.index(None), "number")
    return tuple(ratios)


def check_answers(mould, book, answers):
    return answer_ratios(answers, len(span_rows(mould, book)))


def fitted(rows, ratios, width):
    """Return a result for these answers of rows of this width: Recovered or Clash."""
    tops, bottom = over_one_bottom(ratios)
    cleared, last = cleared_rows([[*row, top] for row, top in zip(rows, tops)], width)
    filling = [ZERO] * width
    numbers = [None] * width
    for lead, line in cleared:
        filling[lead] = lowest_terms(line[width], last * bottom)
        if not any([number != 0 for at, number in enumerate(line[:width]) if at != lead]):
            numbers[lead] = filling[lead]
    if all([row_sum(row, filling) == ratio for row, ratio in zip(rows, ratios)]):
        return Recovered(tuple(numbers), tuple(filling))
    return clash_of(rows, tops, width)


def clash_of(rows, tops, width):
    for relation in hidden_basis(turned_rows(rows, width), len(rows)):
        if made_of(relation, tops) != 0:
            return Clash(as_ratios(relation, len(rows)))
    return None


def recovered_from(mould, book, answers):
    rows = span_rows(mould, book)
    return fitted(rows, answer_ratios(answers, len(rows)), mould.letters_many)


def clash_fault(mould, book, answers, clash):
    rows = span_rows(mould, book)
    ratios = answer_ratios(answers, len(rows))
    weights = as_ratios(clash.weights, len(rows))
    if weights is None:
        return "many"
    if any([total != ZERO for total in weighted_row(rows, weights, mould.letters_many)]):
        return "letters"
    # One bottom for all answers does not change whether their weighted sum is 0.
    tops, _ = over_one_bottom(ratios)
    return "answers" if row_sum(tops, weights) == ZERO else None


def known_at(mould, numbers, row, column):
    letter = mould.letter_at(row, column)
    return ZERO if letter is None else numbers[letter]


def known_rows(mould, numbers):
    """Return the table in which each place has the number of its letter, None if that is not known."""
    columns = list(range(mould.width))
    return tuple([tuple([known_at(mould, numbers, row, at) for at in columns]) for row in range(mould.height)])


def gives_book(mould, book, other):
    rows = span_rows(mould, book)
    asked = span_rows(mould, other)
    basis = hidden_basis(rows, mould.letters_many)
    for answer, row in enumerate(asked):
        for numbers in basis:
            if made_of(row, numbers) != 0:
                return Parted(answer, numbers)
    cleared, last = traced_rows(rows, mould.letters_many)
    return Given(tuple([weights_by(cleared, last, len(rows), row) for row in asked]))


def alike_books(mould, one, other):
    return reduced_rows(span_rows(mould, one)) == reduced_rows(span_rows(mould, other))
