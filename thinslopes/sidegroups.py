"""What a grouping of the points of a web tells of its ties, and the balances and walks that show it."""

from thinslopes.evenwalks import check_tie_number, is_couple_of_groups, least_walk
from thinslopes.groupings import check_grouping, groups_many
from thinslopes.pieces import all_pieces, couple_pieces, has_odd_ring, tie_groups, two_sides
from thinslopes.ratios import ZERO, is_sequence, is_whole, make_ratio, ratio_negative


class Balance:
    def __init__(self, plus, minus, times, groups):
        self.plus = plus
        self.minus = minus
        self.times = times
        self.groups = groups


def calm_many(web, pieces):
    return len([piece for piece in pieces if not has_odd_ring(web, piece)])


def is_tie_told(web, groups, tie):
    couple = tie_groups(groups, web.ties[tie])
    struck = web.without_tie(web.ties[tie])
    before = calm_many(web, couple_pieces(web, groups, couple))
    return calm_many(struck, couple_pieces(struck, groups, couple)) == before + 1


def told_ties(web, grouping):
    groups = check_grouping(web.points, grouping)
    return tuple([tie for tie in range(len(web)) if is_tie_told(web, groups, tie)])


def side_told(web, grouping):
    groups = check_grouping(web.points, grouping)
    walks = [least_walk(web, groups, tie) for tie in range(len(web)) if not is_tie_told(web, groups, tie)]
    return min(walks, key=lambda walk: (len(walk.points), walk.points)) if walks else None


def hidden_many(web, grouping):
    pieces = all_pieces(web, grouping)
    return sum([len(piece.ties) - len(piece.points) for piece in pieces]) + calm_many(web, pieces)


def balance_of(web, groups, number):
    """Return the balance of a told tie, as point 4.9 makes it."""
    tie = web.ties[number]
    couple = tie_groups(groups, tie)
    struck = web.without_tie(tie)
    parts = []
    for point in tie:
        parts.extend([piece for piece in couple_pieces(struck, groups, couple) if point in piece.points])
    whole = parts[0].points == parts[1].points
    part = parts[1] if has_odd_ring(struck, parts[0]) else parts[0]
    one, other = two_sides(struck, part)
    plus, minus = (one, other) if tie[0] in one or tie[1] in one else (other, one)
    return Balance(plus, minus, 2 if whole and tie[0] != tie[1] else 1, couple)


def tie_told(web, grouping, tie):
    groups = check_grouping(web.points, grouping)
    check_tie_number(web, tie)
    return balance_of(web, groups, tie) if is_tie_told(web, groups, tie) else least_walk(web, groups, tie)


def are_unlike_points(web, plus, minus):
    if not is_sequence(plus) or not is_sequence(minus):
        return False
    points = [*plus, *minus]
    return all([is_whole(point, 0, web.points - 1) for point in points]) and len(set(points)) == len(points)


def balance_sums(web, groups, balance):
    """Return how often each tie stands in the sum of the answers of a balance."""
    signs = {point: 1 for point in balance.plus}
    for point in balance.minus:
        signs[point] = -1
    sums = []
    for one, other in web.ties:
        made = signs.get(one, 0) + (signs.get(other, 0) if one != other else 0)
        sums.append(made if tie_groups(groups, (one, other)) == balance.groups else 0)
    return sums


def balance_fault(web, grouping, tie, balance):
    groups = check_grouping(web.points, grouping)
    check_tie_number(web, tie)
    if not are_unlike_points(web, balance.plus, balance.minus):
        return "points"
    if not is_whole(balance.times) or balance.times == 0:
        return "times"
    if not is_couple_of_groups(balance.groups, tie_groups(groups, web.ties[tie])):
        return "groups"
    if any([groups[point] not in balance.groups for point in [*balance.plus, *balance.minus]]):
        return "groups"
    wanted = [balance.times if number == tie else 0 for number in range(len(web))]
    return None if balance_sums(web, groups, balance) == wanted else "letter"


def balance_weights(web, grouping, balance):
    groups = check_grouping(web.points, grouping)
    weights = [ZERO] * (groups_many(groups) * web.points)
    weight = make_ratio(1, balance.times)
    for points, ratio in ((balance.plus, weight), (balance.minus, ratio_negative(weight))):
        for point in points:
            other = sum(balance.groups) - groups[point]
            weights[other * web.points + point] = ratio
    return tuple(weights)
