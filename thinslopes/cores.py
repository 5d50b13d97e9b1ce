"""Budgets of column and row asks, and the core that is left of a free mould when lines are struck."""

from thinslopes.errors import BadBudget, BadLines
from thinslopes.groups import check_free
from thinslopes.ratios import is_sequence, is_whole

MOST_OF_A_KIND = 6
MOST_OF_BOTH = 8


class Core:
    def __init__(self, strikes, cells):
        self.strikes = strikes
        self.cells = cells


def check_budget(budget):
    if not is_sequence(budget) or len(budget) != 2:
        raise BadBudget("couple")
    columns, rows = budget
    if not is_whole(columns, 0, MOST_OF_A_KIND):
        raise BadBudget("columns")
    if not is_whole(rows, 0, MOST_OF_A_KIND):
        raise BadBudget("rows")
    if columns + rows > MOST_OF_BOTH:
        raise BadBudget("many")
    return (columns, rows)


def is_line(mould, thing):
    if not is_sequence(thing) or len(thing) != 2 or thing[0] not in ("row", "column"):
        return False
    return is_whole(thing[1], 0, (mould.height if thing[0] == "row" else mould.width) - 1)


def all_lines(mould):
    rows = [("row", row) for row in range(mould.height)]
    return tuple([*rows, *[("column", column) for column in range(mould.width)]])


def order_of_lines(mould, order):
    if not is_sequence(order):
        raise BadLines(0)
    lines = []
    for index, line in enumerate(order):
        if not is_line(mould, line) or tuple(line) in lines:
            raise BadLines(index)
        lines.append(tuple(line))
    if len(lines) < mould.height + mould.width:
        raise BadLines(len(lines))
    return tuple(lines)


def check_lines(mould, order):
    lines = order_of_lines(mould, order)
    check_free(mould)
    return lines


def plain_order(mould):
    check_free(mould)
    return all_lines(mould)


def cells_in(cells, line):
    at = 0 if line[0] == "row" else 1
    return [cell for cell in cells if cell[at] == line[1]]


def most_in(budget, line):
    """Return how many places may be left in a line that is struck."""
    return budget[0] if line[0] == "row" else budget[1]


def can_strike(cells, budget, line):
    return 1 <= len(cells_in(cells, line)) <= most_in(budget, line)


def without_line(cells, line):
    struck = cells_in(cells, line)
    return [cell for cell in cells if cell not in struck]


def core_of(mould, budget, order=None):
    asks = check_budget(budget)
    lines = all_lines(mould) if order is None else order_of_lines(mould, order)
    check_free(mould)
    left = list(mould.cells)
    strikes = []
    able = [line for line in lines if can_strike(left, asks, line)]
    while able:
        strikes.append(able[0])
        left = without_line(left, able[0])
        able = [line for line in lines if can_strike(left, asks, line)]
    return Core(tuple(strikes), tuple(left))


def strikes_fault(mould, budget, strikes):
    asks = check_budget(budget)
    check_free(mould)
    if not is_sequence(strikes):
        return "line"
    left = list(mould.cells)
    for line in strikes:
        if not is_line(mould, line):
            return "line"
        if not cells_in(left, line):
            return "empty"
        if not can_strike(left, asks, line):
            return "many"
        left = without_line(left, line)
    return "more" if any([can_strike(left, asks, line) for line in all_lines(mould)]) else None
