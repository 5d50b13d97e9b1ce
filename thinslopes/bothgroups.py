"""Rows and columns of free moulds dealt into groups: which letters are read at once, and which are told."""

from thinslopes.errors import TooMany
from thinslopes.groupings import book_of, check_grouping, groups_many
from thinslopes.groups import check_free
from thinslopes.ratios import is_sequence

MOST_GROUPS = 8


class Chain:
    def __init__(self, cells):
        self.cells = cells


def check_both(mould, row_groups, column_groups):
    rows = check_grouping(mould.height, row_groups, True)
    columns = check_grouping(mould.width, column_groups, True)
    check_free(mould)
    return rows, columns


def groups_book(mould, row_groups, column_groups):
    rows, columns = check_both(mould, row_groups, column_groups)
    count = groups_many(rows) + groups_many(columns)
    if count > MOST_GROUPS:
        raise TooMany(count)
    return book_of(columns) + tuple([("row", numbers) for _, numbers in book_of(rows)])


def ends_of_places(mould, rows, columns):
    """Return the two answers of each place: by its row and group of columns, by its column and group of rows.

    An answer that it lacks is None. So a place is a step between two ends, pieces that are held hang together by
    None, and a chain of places is a ring of such steps.
    """
    ends = []
    for row, column in mould.cells:
        by_row = None if columns[column] is None else ("row", row, columns[column])
        ends.append((by_row, None if rows[row] is None else ("column", column, rows[row])))
    return ends


def answers_of_places(mould, rows, columns):
    """Return the answers that have each place."""
    ends = ends_of_places(mould, rows, columns)
    return [[answer for answer in couple if answer is not None] for couple in ends]


def first_unread(mould, rows, columns):
    """Return the least place whose letter is not read at once, or None."""
    found = answers_of_places(mould, rows, columns)
    counts = {}
    for answers in found:
        for answer in answers:
            counts[answer] = counts.get(answer, 0) + 1
    for cell, answers in zip(mould.cells, found):
        if not any([counts[answer] == 1 for answer in answers]):
            return cell
    return None


def unread_cell(mould, row_groups, column_groups):
    rows, columns = check_both(mould, row_groups, column_groups)
    return first_unread(mould, rows, columns)


def path_between(ends, numbers, one, other):
    """Return the numbers of the places that lead from one end to the other, or None."""
    paths = {one: ()}
    waiting = [one]
    while waiting and other not in paths:
        now = waiting.pop()
        for number in numbers:
            if now in ends[number]:
                first, second = ends[number]
                after = second if now == first else first
                if after not in paths:
                    paths[after] = (*paths[now], number)
                    waiting.append(after)
    return paths.get(other)


def told_by_both(mould, row_groups, column_groups):
    rows, columns = check_both(mould, row_groups, column_groups)
    ends = ends_of_places(mould, rows, columns)
    numbers = list(range(len(ends)))
    told = []
    for letter, (one, other) in enumerate(ends):
        others = [number for number in numbers if number != letter]
        if path_between(ends, others, one, other) is None:
            told.append(letter)
    return tuple(told)


def first_chain(mould, rows, columns):
    """Return the places of a chain, or None."""
    ends = ends_of_places(mould, rows, columns)
    for letter, (one, other) in enumerate(ends):
        path = path_between(ends, list(range(letter)), one, other)
        if path is not None:
            # A ring through None is in order, too: a place in a single answer shares it with such places alone, so
            # that ring has one place or two.
            return tuple([mould.cells[number] for number in [*path, letter]])
    return None


def both_told(mould, row_groups, column_groups):
    rows, columns = check_both(mould, row_groups, column_groups)
    cells = first_chain(mould, rows, columns)
    return None if cells is None else Chain(cells)


def are_unlike_places(mould, cells):
    if not is_sequence(cells) or not cells or not all([cell in mould for cell in cells]):
        return False
    return len(set([tuple(cell) for cell in cells])) == len(cells)


def chain_fault(mould, row_groups, column_groups, chain):
    rows, columns = check_both(mould, row_groups, column_groups)
    if not are_unlike_places(mould, chain.cells):
        return "cells"
    found = answers_of_places(mould, rows, columns)
    sums = {}
    for at, (row, column) in enumerate(chain.cells):
        for answer in found[mould.letter_at(row, column)]:
            sums[answer] = sums.get(answer, 0) + (1 if at % 2 == 0 else -1)
    return "answer" if any([total != 0 for total in sums.values()]) else None
