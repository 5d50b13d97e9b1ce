"""Pieces: the points of two groups of a web, or of one, that ties between these groups join; and their odd rings."""

from thinslopes.errors import NoGroup
from thinslopes.groupings import check_grouping, groups_many
from thinslopes.ratios import is_whole, unshared


class Piece:
    def __init__(self, points, ties, groups):
        self.points = points
        self.ties = ties
        self.groups = groups


def couple_of(one, other):
    return (min(one, other), max(one, other))


def tie_groups(groups, tie):
    """Return the couple of groups to which the tie belongs."""
    return couple_of(groups[tie[0]], groups[tie[1]])


def ties_between(web, groups, couple):
    """Return the numbers of the ties that belong to the couple of groups, ascending."""
    return [number for number, tie in enumerate(web.ties) if tie_groups(groups, tie) == couple]


def joined_to(web, numbers, start):
    """Return the points that these ties join to a point, itself included, ascending."""
    found = [start]
    at = 0
    while at < len(found):
        ends = [web.ties[number] for number in numbers if found[at] in web.ties[number]]
        for point in [end for tie in ends for end in tie]:
            if point not in found:
                found.append(point)
        at += 1
    return tuple(sorted(found))


def couple_pieces(web, groups, couple):
    numbers = ties_between(web, groups, couple)
    pieces = []
    reached = []
    for point in range(web.points):
        if groups[point] in couple and point not in reached:
            points = joined_to(web, numbers, point)
            ties = tuple([number for number in numbers if web.ties[number][0] in points])
            pieces.append(Piece(points, ties, couple))
            reached.extend(points)
    return tuple(pieces)


def pieces_between(web, grouping, one, two):
    groups = check_grouping(web.points, grouping)
    for group in (one, two):
        if not is_whole(group, 0, groups_many(groups) - 1):
            raise NoGroup(unshared(group))
    return couple_pieces(web, groups, couple_of(one, two))


def group_couples(groups):
    """Return all couples of groups, ascending."""
    many = groups_many(groups)
    return [(one, two) for one in range(many) for two in range(one, many)]


def all_pieces(web, grouping):
    groups = check_grouping(web.points, grouping)
    pieces = []
    for couple in group_couples(groups):
        pieces.extend(couple_pieces(web, groups, couple))
    return tuple(pieces)


def two_sides(web, piece):
    sides = {piece.points[0]: 0}
    waiting = [piece.points[0]]
    while waiting:
        point = waiting.pop()
        for number in piece.ties:
            if point in web.ties[number]:
                other = sum(web.ties[number]) - point
                if other not in sides:
                    sides[other] = 1 - sides[point]
                    waiting.append(other)
                elif sides[other] == sides[point]:
                    return None
    return tuple([tuple([end for end in piece.points if sides[end] == side]) for side in (0, 1)])


def has_odd_ring(web, piece):
    return two_sides(web, piece) is None


def first_ring(web, piece, length):
    """Return the first ring of so many points of the piece, or None."""
    paths = [(point,) for point in piece.points]
    for _ in range(length - 1):
        paths = [
            (*path, point) for path in paths for point in piece.points
            if point > path[0] and point not in path and web.tie_number(path[-1], point) in piece.ties
        ]
    for path in paths:
        # Each ring is met twice, once each way round; it counts where its second point is less than its last.
        if web.tie_number(path[-1], path[0]) in piece.ties and (length == 1 or path[1] < path[-1]):
            return path
    return None


def odd_ring(web, piece):
    if has_odd_ring(web, piece):
        for length in range(1, len(piece.points) + 1, 2):
            ring = first_ring(web, piece, length)
            if ring is not None:
                return ring
    return None
