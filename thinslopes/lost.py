"""Letters that stay told though some answers are lost or wrong, and answers put right."""

from thinslopes.asks import row_sum, span_rows
from thinslopes.errors import BadMost, TooMany
from thinslopes.lots import has_part, is_lot, lots_of
from thinslopes.moulds import check_letter
from thinslopes.ratios import ZERO, as_ratios, is_whole, unshared
from thinslopes.recover import Recovered, answer_ratios, fitted
from thinslopes.spans import cleared_rows, hidden_basis
from thinslopes.told import first_hidden

MOST_ANSWERS = 12
MOST_LOST = 4
MOST_WRONG = 2


class Lost:
    def __init__(self, answers, numbers):
        self.answers = answers
        self.numbers = numbers


class Mended:
    def __init__(self, wrong, answers, numbers):
        self.wrong = wrong
        self.answers = answers
        self.numbers = numbers


class Worse:
    def __init__(self, most):
        self.most = most


def check_most(most, highest):
    if not is_whole(most, 0, highest):
        raise BadMost(unshared(most))


def check_few_answers(rows):
    if len(rows) > MOST_ANSWERS:
        raise TooMany(MOST_ANSWERS)


def without_lot(things, lot):
    """Return the things that have none of these indices."""
    return [thing for index, thing in enumerate(things) if index not in lot]


def is_told_by(rows, width, letter):
    return first_hidden(hidden_basis(rows, width), letter) is None


def first_loss(rows, width, letter, most):
    """Return the first lot of at most so many answers without which the letter is not told, or None."""
    if not is_told_by(rows, width, letter):
        return ()
    # The numbers at the leads fix all others of a sum of the rows, and each told letter is a lead.
    cleared, _ = cleared_rows(rows, width)
    leads = [lead for lead, _ in cleared]
    short = [[row[lead] for lead in leads] for row in rows]
    for size in range(1, most + 1):
        for lot in lots_of(list(range(len(rows))), size):
            if not is_told_by(without_lot(short, lot), len(leads), leads.index(letter)):
                return lot
    return None


def lost_by(rows, width, letter, most):
    lot = first_loss(rows, width, letter, most)
    if lot is None:
        return None
    return Lost(lot, first_hidden(hidden_basis(without_lot(rows, lot), width), letter).numbers)


def lost_told(mould, book, letter, most):
    rows = span_rows(mould, book)
    check_letter(mould, letter)
    check_most(most, MOST_LOST)
    check_few_answers(rows)
    return lost_by(rows, mould.letters_many, letter, most)


def lost_fault(mould, book, letter, lost):
    rows = span_rows(mould, book)
    check_letter(mould, letter)
    if not is_lot(lost.answers, len(rows)):
        return "answers"
    ratios = as_ratios(lost.numbers, mould.letters_many)
    if ratios is None:
        return "many"
    if any([row_sum(row, ratios) != ZERO for row in without_lot(rows, lost.answers)]):
        return "outside"
    return "letter" if ratios[letter] == ZERO else None


def least_loss(mould, book, letter):
    rows = span_rows(mould, book)
    check_letter(mould, letter)
    check_few_answers(rows)
    return first_loss(rows, mould.letters_many, letter, len(rows))


def wrong_told(mould, book, letter, most):
    rows = span_rows(mould, book)
    check_letter(mould, letter)
    check_most(most, MOST_WRONG)
    check_few_answers(rows)
    return lost_by(rows, mould.letters_many, letter, 2 * most)


def fitting_lots(rows, ratios, width, most):
    """Return the lots of at most so many answers that fit least, each with a filling that gives all other answers."""
    found = []
    for size in range(most + 1):
        for lot in lots_of(list(range(len(rows))), size):
            if not has_part(lot, [other for other, _ in found]):
                fit = fitted(without_lot(rows, lot), without_lot(ratios, lot), width)
                if isinstance(fit, Recovered):
                    found.append((lot, fit.filling))
    return found


def mended_answers(mould, book, answers, most):
    rows = span_rows(mould, book)
    ratios = answer_ratios(answers, len(rows))
    check_most(most, MOST_WRONG)
    check_few_answers(rows)
    many = mould.letters_many
    found = []
    for lot, filling in fitting_lots(rows, ratios, many, most):
        right = tuple([row_sum(row, filling) for row in rows])
        found.append(Mended(lot, right, fitted(rows, right, many).numbers))
    return tuple(found) if found else Worse(most)
