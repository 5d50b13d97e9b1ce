"""Blocks: lots of rows and columns that hold too many places for any book within a budget."""

from thinslopes.asks import span_rows
from thinslopes.cores import check_budget
from thinslopes.errors import BadBlock
from thinslopes.groups import check_free
from thinslopes.lots import is_lot, lots_of
from thinslopes.ratios import is_whole
from thinslopes.told import hidden_on


class Block:
    def __init__(self, rows, columns, places, most):
        self.rows = rows
        self.columns = columns
        self.places = places
        self.most = most


def most_of(asks, rows_many, columns_many):
    by_rows = min(asks[0], columns_many)
    by_columns = min(asks[1], rows_many)
    return by_rows * rows_many + by_columns * columns_many - by_rows * by_columns


def block_most(budget, rows_many, columns_many):
    return most_of(check_budget(budget), rows_many, columns_many)


def letters_within(mould, rows, columns):
    return [letter for letter, (row, column) in enumerate(mould.cells) if row in rows and column in columns]


def blocks_in_order(mould):
    """Return the rows, the columns and the number of places of each block that has both, in the order of point 6.7."""
    blocks = []
    for lines in range(2, mould.height + mould.width + 1):
        for rows_many in range(1, min(lines, mould.height + 1)):
            for rows in lots_of(list(range(mould.height)), rows_many):
                for columns in lots_of(list(range(mould.width)), lines - rows_many):
                    blocks.append((rows, columns, len(letters_within(mould, rows, columns))))
    return blocks


def first_too_full(blocks, asks):
    for rows, columns, places in blocks:
        most = most_of(asks, len(rows), len(columns))
        if places > most:
            return Block(rows, columns, places, most)
    return None


def floor_block(mould, budget):
    asks = check_budget(budget)
    check_free(mould)
    # A block without rows or columns has no places, and so is never too full.
    return first_too_full(blocks_in_order(mould), asks)


def block_fault(mould, budget, block):
    asks = check_budget(budget)
    check_free(mould)
    if not is_lot(block.rows, mould.height):
        return "rows"
    if not is_lot(block.columns, mould.width):
        return "columns"
    places = len(letters_within(mould, block.rows, block.columns))
    if not is_whole(block.places, places, places):
        return "places"
    most = most_of(asks, len(block.rows), len(block.columns))
    if not is_whole(block.most, most, most):
        return "most"
    return None if places > most else "few"


def hidden_in_block(mould, block_rows, block_columns, book):
    if not is_lot(block_rows, mould.height):
        raise BadBlock("rows")
    if not is_lot(block_columns, mould.width):
        raise BadBlock("columns")
    rows = span_rows(mould, book)
    check_free(mould)
    return hidden_on(rows, letters_within(mould, block_rows, block_columns), mould.letters_many)
