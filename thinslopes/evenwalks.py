"""Closed walks of even length along the ties of a web, and the hidden fillings that they give."""

from thinslopes.errors import BadTie, BadWalk
from thinslopes.groupings import check_grouping
from thinslopes.pieces import couple_of, tie_groups, ties_between
from thinslopes.ratios import is_sequence, is_whole, unshared

# No least walk is longer (point 4.6).
MOST_STEPS = 12


class Walk:
    def __init__(self, points, groups):
        self.points = points
        self.groups = groups


def steps_of(web, points):
    """Return the number of the tie of each step, None where there is no tie."""
    return [web.tie_number(one, other) for one, other in zip(points, points[1:])]


def points_word(web, points):
    """Return the first word of point 4.5 that applies to the points of a walk, or None."""
    if not is_sequence(points) or len(points) < 2:
        return "closed"
    if not all([is_whole(point, 0, web.points - 1) for point in points]) or points[0] != points[-1]:
        return "closed"
    if len(points) % 2 == 0:
        return "even"
    return "tie" if None in steps_of(web, points) else None


def filling_of(web, points):
    numbers = [0] * len(web)
    for at, number in enumerate(steps_of(web, points)):
        one, other = web.ties[number]
        step = 2 if one == other else 1
        numbers[number] += step if at % 2 == 0 else -step
    return tuple(numbers)


def walk_filling(web, walk):
    word = points_word(web, walk.points)
    if word is not None:
        raise BadWalk(word)
    return filling_of(web, walk.points)


def is_couple_of_groups(thing, couple):
    return isinstance(thing, tuple) and all([is_whole(group) for group in thing]) and thing == couple


def walk_fault(web, grouping, walk):
    groups = check_grouping(web.points, grouping)
    word = points_word(web, walk.points)
    if word is not None:
        return word
    passed = [groups[point] for point in walk.points]
    if not is_couple_of_groups(walk.groups, couple_of(passed[0], passed[1])) or passed[2:] != passed[:-2]:
        return "groups"
    return None if any([number != 0 for number in filling_of(web, walk.points)]) else "none"


def neighbours_by(web, numbers):
    """Return, for each point, ascending couples: a point to which one of these ties leads, and the tie's number."""
    found = [[] for point in range(web.points)]
    for number in numbers:
        one, other = web.ties[number]
        found[one].append((other, number))
        if one != other:
            found[other].append((one, number))
    return [sorted(couples) for couples in found]


def step_worth(steps_left, number, tie):
    """Return what a step gives the one tie; there is an even number of steps, so those left tell its sign."""
    if number != tie:
        return 0
    return 1 if steps_left % 2 == 0 else -1


def sums_by_steps(neighbours, start, tie):
    """Return, for each number of steps left, point by point, all that the tie may be given if they end at start."""
    tables = [[(0,) if point == start else () for point in range(len(neighbours))]]
    for left in range(1, MOST_STEPS + 1):
        table = []
        for couples in neighbours:
            table.append(tuple(sorted({
                step_worth(left, number, tie) + more for point, number in couples for more in tables[left - 1][point]
            })))
        tables.append(table)
    return tables


def first_point(couples, table, steps_left, given, tie):
    """Return the first point from which the tie can still end with another number than 0, and what it is given then."""
    for point, number in couples:
        worth = given + step_worth(steps_left, number, tie)
        if any([worth + more != 0 for more in table[point]]):
            return point, worth
    return None


def path_by_sums(neighbours, tables, start, steps, tie):
    """Return the first points of so many steps from start and back that give the tie another number than 0."""
    points = [start]
    given = 0
    for left in range(steps, 0, -1):
        point, given = first_point(neighbours[points[-1]], tables[left - 1], left, given, tie)
        points.append(point)
    return tuple(points)


def least_walk(web, groups, tie):
    couple = tie_groups(groups, web.ties[tie])
    neighbours = neighbours_by(web, ties_between(web, groups, couple))
    tables = [sums_by_steps(neighbours, start, tie) for start in range(web.points)]
    for steps in range(2, MOST_STEPS + 1, 2):
        for start in range(web.points):
            if any([given != 0 for given in tables[start][steps][start]]):
                return Walk(path_by_sums(neighbours, tables[start], start, steps, tie), couple)
    return None


def check_tie_number(web, tie):
    if not is_whole(tie, 0, len(web) - 1):
        raise BadTie(unshared(tie))
    return tie


def walk_through(web, grouping, tie):
    groups = check_grouping(web.points, grouping)
    return least_walk(web, groups, check_tie_number(web, tie))
