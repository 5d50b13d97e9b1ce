"""Webs: points and ties between them; the table of a web has one letter on both sides of its diagonal."""

from thinslopes.errors import BadOrder, BadPoint, BadTie, BadWeb
from thinslopes.moulds import MOST_LINES, is_couple, is_order, mould_by_places
from thinslopes.ratios import is_sequence, is_whole, unshared


def is_tie(thing, points):
    return is_couple(thing, points, points) and thing[0] <= thing[1]


def checked_ties(points, ties):
    if not is_sequence(ties):
        raise BadWeb("tie", 0)
    kept = []
    for index, tie in enumerate(ties):
        if not is_tie(tie, points) or (kept and tuple(tie) <= kept[-1]):
            raise BadWeb("tie", index)
        kept.append(tuple(tie))
    return tuple(kept)


class Web:
    def __init__(self, points, ties):
        if not is_whole(points, 1, MOST_LINES):
            raise BadWeb("points", 0)
        self.points = points
        self.ties = checked_ties(points, ties)

    def __len__(self):
        return len(self.ties)

    def __iter__(self):
        return iter(self.ties)

    def __eq__(self, other):
        return isinstance(other, Web) and self.points == other.points and self.ties == other.ties

    def as_mould(self):
        letters = {}
        for number, (one, other) in enumerate(self.ties):
            letters[(one, other)] = number
            letters[(other, one)] = number
        return mould_by_places(self.points, self.points, letters)

    def tie_number(self, one, other):
        if not is_couple((one, other), self.points, self.points):
            return None
        tie = (min(one, other), max(one, other))
        return self.ties.index(tie) if tie in self.ties else None

    def friends_of(self, point):
        if not is_whole(point, 0, self.points - 1):
            raise BadPoint(unshared(point))
        return tuple([friend for friend in range(self.points) if self.tie_number(point, friend) is not None])

    def with_tie(self, tie):
        if not is_tie(tie, self.points) or tuple(tie) in self.ties:
            raise BadTie(unshared(tie))
        return Web(self.points, sorted([*self.ties, tuple(tie)]))

    def without_tie(self, tie):
        if not is_tie(tie, self.points) or tuple(tie) not in self.ties:
            raise BadTie(unshared(tie))
        return Web(self.points, [kept for kept in self.ties if kept != tuple(tie)])

    def renamed_web(self, order):
        if not is_order(order, self.points):
            raise BadOrder("points")
        ends = [(order[one], order[other]) for one, other in self.ties]
        return Web(self.points, sorted([(min(couple), max(couple)) for couple in ends]))
