"""Columns of free moulds dealt into groups: what such a book tells, and the fewest groups that tell all."""

from thinslopes.errors import NotFree
from thinslopes.groupings import all_groupings, check_grouping, groups_many


class Missing:
    def __init__(self, column):
        self.column = column


class Meeting:
    def __init__(self, row, first, second):
        self.row = row
        self.first = first
        self.second = second


def check_free(mould):
    if not mould.free:
        raise NotFree()


def columns_by_row(mould):
    """Return the ascending columns that have a place in each row."""
    return [[column for row, column in mould.cells if row == line] for line in range(mould.height)]


def columns_with_places(mould):
    return [column for column in range(mould.width) if any([place[1] == column for place in mould.cells])]


def first_meeting(mould, groups):
    """Return the first meeting of two columns of one group, or None; groups has a group for each column, or None."""
    for row, columns in enumerate(columns_by_row(mould)):
        for at, first in enumerate(columns):
            for second in columns[at + 1:]:
                if groups[first] is not None and groups[first] == groups[second]:
                    return Meeting(row, first, second)
    return None


def grouped_told(mould, grouping):
    groups = check_grouping(mould.width, grouping, True)
    check_free(mould)
    for column in columns_with_places(mould):
        if groups[column] is None:
            return Missing(column)
    return first_meeting(mould, groups)


def grouped_letters(mould, grouping):
    groups = check_grouping(mould.width, grouping, True)
    check_free(mould)
    alone = []
    lines = columns_by_row(mould)
    for letter, (row, column) in enumerate(mould.cells):
        met = [other for other in lines[row] if groups[other] == groups[column]]
        if groups[column] is not None and met == [column]:
            alone.append(letter)
    return tuple(alone)


def spread_groups(width, columns, groups):
    """Return the grouping of all columns in which these columns have these groups, and the others none."""
    spread = [None] * width
    for column, group in zip(columns, groups):
        spread[column] = group
    return tuple(spread)


def good_groupings(mould):
    """Return all good groupings, ascending."""
    columns = columns_with_places(mould)
    if not columns:
        return [(None,) * mould.width]
    many = len(columns)
    found = [spread_groups(mould.width, columns, groups) for groups in all_groupings(many)]
    return [groups for groups in found if first_meeting(mould, groups) is None]


def least_groupings(mould):
    check_free(mould)
    found = good_groupings(mould)
    least = min([groups_many(grouping) for grouping in found])
    for grouping in found:
        if groups_many(grouping) == least:
            yield grouping


def fewest_groups(mould):
    return list(least_groupings(mould))[0]
