"""Groupings: things dealt into groups, which are numbered by first appearance."""

from thinslopes.errors import BadCount, BadGrouping
from thinslopes.ratios import is_sequence, is_whole, misnumbered_at, unshared


def check_grouping(count, grouping, gaps=False):
    if not is_sequence(grouping):
        raise BadGrouping(0)
    index = misnumbered_at(grouping, gaps)
    if index is not None:
        raise BadGrouping(index)
    if len(grouping) != count:
        raise BadGrouping(min(len(grouping), count))
    return tuple(grouping)


def groups_many(grouping):
    return max([group for group in grouping if group is not None], default=-1) + 1


def check_count(count):
    if not is_whole(count, 1, 6):
        raise BadCount(unshared(count))
    return count


def all_groupings(count):
    check_count(count)
    groupings = [()]
    for _ in range(count):
        groupings = [(*known, group) for known in groupings for group in range(groups_many(known) + 1)]
    for grouping in groupings:
        yield grouping


def count_groupings(count):
    return len(list(all_groupings(count)))


def book_of(grouping):
    book = []
    for group in range(groups_many(grouping)):
        book.append(("column", tuple([1 if item == group else 0 for item in grouping])))
    return tuple(book)
