"""Rows of whole numbers: their reduced rows, the weights that make a row of them, the rows that make 0 with them."""

from thinslopes.ratios import common_divisor, lowest_terms


class Weights:
    def __init__(self, row):
        self.row = row


def unit_row(width, at):
    return tuple([1 if place == at else 0 for place in range(width)])


def made_of(one, other):
    """Return what two rows make: the sum of the products of their numbers at each position."""
    return sum([number * times for number, times in zip(one, other)])


def turned_rows(rows, width):
    """Return the rows as columns; without rows, `width` empty ones."""
    return [[row[at] for row in rows] for at in range(width)]


def without_divisor(row, lead):
    """Divide a row by what its numbers have in common, so that the number at its lead is above 0."""
    divisor = 0
    for number in row:
        divisor = common_divisor(divisor, number)
    if row[lead] < 0:
        divisor = -divisor
    return tuple([number // divisor for number in row])


def stepped(row, pivot, at, last):
    # The divisions leave no rest: all numbers are minors of the first rows, as Bareiss has shown.
    return [(pivot[at] * number - row[at] * other) // last for number, other in zip(row, pivot)]


def cleared_rows(rows, width):
    """Eliminate at the first `width` positions, so that each lead there stands alone in its column.

    Return the couples (lead, row), by ascending leads, and the number that each of these rows has at its lead.
    """
    left = [list(row) for row in rows]
    cleared = []
    last = 1
    for at in range(width):
        usable = [index for index, row in enumerate(left) if row[at] != 0]
        if usable:
            pivot = left.pop(usable[0])
            left = [stepped(row, pivot, at, last) for row in left]
            cleared = [(lead, stepped(row, pivot, at, last)) for lead, row in cleared]
            cleared.append((at, pivot))
            last = pivot[at]
    return cleared, last


def traced_rows(rows, width):
    """Clear the rows; behind each row that is left stand the weights of the given rows of which it is the sum."""
    many = len(rows)
    return cleared_rows([[*row, *unit_row(many, index)] for index, row in enumerate(rows)], width)


def weights_by(cleared, last, many, row):
    """Return the weights of `many` traced rows that make the row, as a tuple, or None."""
    width = len(row)
    total = [0] * (width + many)
    for lead, line in cleared:
        if row[lead] != 0:
            total = [number + row[lead] * other for number, other in zip(total, line)]
    if total[:width] != [last * number for number in row]:
        return None
    return tuple([lowest_terms(number, last) for number in total[width:]])


def reduced_rows(rows):
    width = len(rows[0]) if rows else 0
    cleared, _ = cleared_rows(rows, width)
    return tuple([without_divisor(row, lead) for lead, row in cleared])


def rank_of(rows):
    return len(reduced_rows(rows))


def weights_for(rows, row):
    cleared, last = traced_rows(rows, len(row) if rows else 0)
    weights = weights_by(cleared, last, len(rows), row)
    return None if weights is None else Weights(weights)


def hidden_basis(rows, width):
    # From the last position to the first, for then each hidden row begins at a position where all others have 0.
    cleared, last = cleared_rows([row[::-1] for row in rows], width)
    leads = {width - 1 - lead: row[::-1] for lead, row in cleared}
    basis = []
    for free in range(width):
        if free not in leads:
            hidden = [-leads[at][free] if at in leads else 0 for at in range(width)]
            hidden[free] = last
            basis.append(without_divisor(hidden, free))
    return tuple(basis)
