"""Lots of points with too many ties for any book of so few asks, and the core that is left when points are struck."""

from thinslopes.asks import span_rows
from thinslopes.errors import BadPoints
from thinslopes.lots import lots_of
from thinslopes.powers import check_asks_many
from thinslopes.ratios import is_sequence, is_whole
from thinslopes.sidegroups import are_unlike_points
from thinslopes.told import Hidden, hidden_on


class SideLot:
    def __init__(self, points, ties, most):
        self.points = points
        self.ties = ties
        self.most = most


class WebCore:
    def __init__(self, strikes, ties):
        self.strikes = strikes
        self.ties = ties


def ties_within(web, points):
    """Return the numbers of the ties that have both ends among the points, ascending."""
    return [number for number, (one, other) in enumerate(web.ties) if one in points and other in points]


def floor_of(count, points_many):
    asks = min(count, points_many)
    return asks * points_many - asks * (asks - 1) // 2


def side_floor(web, count):
    check_asks_many(count)
    for size in range(1, web.points + 1):
        most = floor_of(count, size)
        for points in lots_of(list(range(web.points)), size):
            ties = len(ties_within(web, points))
            if ties > most:
                return SideLot(points, ties, most)
    return None


def least_floor(web):
    count = 0
    while side_floor(web, count) is not None:
        count += 1
    return count


def check_points(web, points):
    if not is_sequence(points) or len(points) == 0:
        raise BadPoints(0)
    for index, point in enumerate(points):
        if not is_whole(point, 0, web.points - 1) or (index > 0 and point <= points[index - 1]):
            raise BadPoints(index)


def side_hidden(web, points, book):
    check_points(web, points)
    numbers = hidden_on(span_rows(web.as_mould(), book), ties_within(web, points), len(web))
    return None if numbers is None else Hidden(numbers)


def points_left(web, strikes):
    return [point for point in range(web.points) if point not in strikes]


def able_points(web, count, strikes):
    """Return the points that may be struck behind these strikes, ascending."""
    left = points_left(web, strikes)
    ties = [web.ties[number] for number in ties_within(web, left)]
    return [point for point in left if len([tie for tie in ties if point in tie]) <= count]


def web_core(web, count):
    check_asks_many(count)
    strikes = []
    able = able_points(web, count, strikes)
    while able:
        strikes.append(able[0])
        able = able_points(web, count, strikes)
    return WebCore(tuple(strikes), tuple(ties_within(web, points_left(web, strikes))))


def web_core_fault(web, count, strikes):
    check_asks_many(count)
    if not are_unlike_points(web, strikes, ()):
        return "point"
    for at, point in enumerate(strikes):
        if point not in able_points(web, count, strikes[:at]):
            return "ties"
    return "more" if able_points(web, count, strikes) else None


def least_powers(web):
    count = 0
    while web_core(web, count).ties:
        count += 1
    return count
