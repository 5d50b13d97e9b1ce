"""The fewest groups of the points of a web by which all its ties are read at once, taken away, or told."""

from thinslopes.errors import BadGrouping, BadWay
from thinslopes.groupings import all_groupings, check_grouping, groups_many
from thinslopes.pieces import all_pieces, odd_ring
from thinslopes.ratios import unshared
from thinslopes.sidegroups import hidden_many

WAYS = ("read", "taken", "told")


class FewestGroups:
    def __init__(self, groups, first, many):
        self.groups = groups
        self.first = first
        self.many = many


def check_way(way):
    if way not in WAYS:
        raise BadWay(unshared(way))


def all_read(web, groups):
    counts = {}
    for one, other in web.ties:
        # A diagonal joins its point to its group once.
        for end in sorted({(one, groups[other]), (other, groups[one])}):
            counts[end] = counts.get(end, 0) + 1
    return all([counts[(one, groups[other])] == 1 or counts[(other, groups[one])] == 1 for one, other in web.ties])


def all_told(web, groups):
    return hidden_many(web, groups) == 0


def all_taken(web, groups):
    if not all_told(web, groups):
        return False
    rings = [odd_ring(web, piece) for piece in all_pieces(web, groups)]
    return all([ring is None or len(ring) == 1 for ring in rings])


def holds(web, way, groups):
    if way == "read":
        return all_read(web, groups)
    return all_taken(web, groups) if way == "taken" else all_told(web, groups)


def holds_way(web, way, grouping):
    check_way(way)
    return holds(web, way, check_grouping(web.points, grouping))


def least_by(web, way):
    """Return all least groupings, ascending."""
    points = web.points
    groupings = list(all_groupings(points))
    found = []
    many = 1
    while not found:
        found = [grouping for grouping in groupings if groups_many(grouping) == many and holds(web, way, grouping)]
        many += 1
    return found


def fewest_by(web, way):
    check_way(way)
    found = least_by(web, way)
    return FewestGroups(groups_many(found[0]), found[0], len(found))


def all_fewest(web, way):
    check_way(way)
    for grouping in least_by(web, way):
        yield grouping


def fewest_three(web):
    return tuple([groups_many(least_by(web, way)[0]) for way in WAYS])


def fewest_fault(web, way, grouping):
    check_way(way)
    try:
        groups = check_grouping(web.points, grouping)
    except BadGrouping:
        return "grouping"
    if not holds(web, way, groups):
        return "way"
    return "more" if groups_many(groups) > groups_many(least_by(web, way)[0]) else None
