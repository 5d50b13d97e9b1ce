"""The least budgets that blocks, books of powers and cores leave open for a free mould."""

from thinslopes.blocks import blocks_in_order, first_too_full
from thinslopes.cores import MOST_OF_A_KIND, MOST_OF_BOTH, core_of
from thinslopes.groups import check_free
from thinslopes.powerbooks import powers_tell


class Bounds:
    def __init__(self, low, low_budget, blocks, high, high_budget, cored, cored_budget):
        self.low = low
        self.low_budget = low_budget
        self.blocks = blocks
        self.high = high
        self.high_budget = high_budget
        self.cored = cored
        self.cored_budget = cored_budget


def budgets_of(many):
    """Return all budgets with this sum, ascending."""
    numbers = range(MOST_OF_A_KIND + 1)
    return [(columns, many - columns) for columns in numbers if many - columns in numbers]


def budgets_from(many):
    """Return all budgets with this sum or a greater one, by their sums, then ascending."""
    found = []
    for total in range(many, MOST_OF_BOTH + 1):
        found.extend(budgets_of(total))
    return found


def is_cored(mould, budget):
    return core_of(mould, budget).cells == ()


def first_open(blocks):
    """Return the first budget for which no block is too full."""
    for budget in budgets_from(0):
        if first_too_full(blocks, budget) is None:
            return budget
    return None


def first_telling(mould, blocks, low):
    for budget in budgets_from(low):
        # The two tests ahead of the book are quicker; by point 6.8 they leave out none that tells all.
        if first_too_full(blocks, budget) is None and (is_cored(mould, budget) or powers_tell(mould, budget)):
            return budget
    return None


def first_cored(mould, low):
    for budget in budgets_from(low):
        if is_cored(mould, budget):
            return budget
    return None


def both_bounds(mould):
    check_free(mould)
    blocks = blocks_in_order(mould)
    low_budget = first_open(blocks)
    low = sum(low_budget)
    floors = tuple([first_too_full(blocks, budget) for budget in budgets_of(low - 1)])
    high_budget = first_telling(mould, blocks, low)
    cored_budget = first_cored(mould, low)
    return Bounds(low, low_budget, floors, sum(high_budget), high_budget, sum(cored_budget), cored_budget)
