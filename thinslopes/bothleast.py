"""The fewest groups of rows and columns together by which all letters are read at once, or told."""

from thinslopes.bothgroups import first_chain, first_unread
from thinslopes.errors import TooMany
from thinslopes.groupings import check_count, groups_many
from thinslopes.groups import check_free

MOST_LINES_OF_BOTH = 7


class LeastBoth:
    def __init__(self, row_groups, column_groups, many):
        self.row_groups = row_groups
        self.column_groups = column_groups
        self.many = many


def all_gapped(count):
    check_count(count)
    groupings = [()]
    for _ in range(count):
        groupings = [
            (*known, group) for known in groupings for group in [None, *list(range(groups_many(known) + 1))]
        ]
    for grouping in groupings:
        yield grouping


def check_lines_many(mould):
    check_free(mould)
    count = mould.height + mould.width
    if count > MOST_LINES_OF_BOTH:
        raise TooMany(count)


def both_groupings(mould):
    """Return all groupings of the rows with all of the columns, with how many groups, by this number, then in order."""
    height, width = mould.height, mould.width
    columns = list(all_gapped(width))
    couples = []
    for rows in all_gapped(height):
        couples.extend([(rows, other, groups_many(rows) + groups_many(other)) for other in columns])
    # Sorting keeps the order of couples with one number.
    return sorted(couples, key=lambda couple: couple[2])


def fewest_read_by_both(mould):
    check_lines_many(mould)
    for rows, columns, many in both_groupings(mould):
        if first_unread(mould, rows, columns) is None:
            return LeastBoth(rows, columns, many)
    return None


def fewest_told_by_both(mould):
    check_lines_many(mould)
    for rows, columns, many in both_groupings(mould):
        if first_chain(mould, rows, columns) is None:
            return LeastBoth(rows, columns, many)
    return None
