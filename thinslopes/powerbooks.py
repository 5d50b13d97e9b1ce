"""Books of column and row asks of powers, and their answers solved along the strikes of a core."""

from thinslopes.asks import less_known, power_asks, span_rows
from thinslopes.cores import cells_in, check_budget, core_of, without_line
from thinslopes.groups import check_free
from thinslopes.powers import unit_polynomial
from thinslopes.ratios import ZERO, ratio_plus, ratio_times
from thinslopes.recover import answer_ratios
from thinslopes.told import tells_all


def power_book(mould, asks):
    return power_asks("column", mould.width, asks[0]) + power_asks("row", mould.height, asks[1])


def both_book(mould, budget):
    asks = check_budget(budget)
    check_free(mould)
    return power_book(mould, asks)


def powers_tell(mould, budget):
    return tells_all(mould, both_book(mould, budget))


def answers_along(mould, asks, line):
    """Return the numbers of the answers of the power book that a line has, by ascending powers."""
    kind, number = line
    if kind == "row":
        return [power * mould.height + number for power in range(asks[0])]
    return [asks[0] * mould.height + power * mould.width + number for power in range(asks[1])]


def weighted_sum(weights, ratios):
    total = ZERO
    for weight, ratio in zip(weights, ratios):
        total = ratio_plus(total, ratio_times(weight, ratio))
    return total


def struck_numbers(mould, budget, answers, order=None):
    asks = check_budget(budget)
    rows = span_rows(mould, power_book(mould, asks))
    ratios = answer_ratios(answers, len(rows))
    strikes = core_of(mould, asks, order).strikes
    numbers = [None] * mould.letters_many
    left = list(mould.cells)
    for line in strikes:
        rests = [less_known(rows[at], ratios[at], numbers) for at in answers_along(mould, asks, line)]
        cells = cells_in(left, line)
        bases = [column if line[0] == "row" else row for row, column in cells]
        for (row, column), base in zip(cells, bases):
            # A place is the sum of its line's answers by the polynomial that is 1 there and 0 at the other places.
            numbers[mould.letter_at(row, column)] = weighted_sum(unit_polynomial(bases, base), rests)
        left = without_line(left, line)
    return tuple(numbers)
