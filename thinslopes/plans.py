"""Plans, which choose their next ask by whether a given answer is 0; and what they do with a filling."""

from thinslopes.asks import MOST_ASKS, answers_of_kind, ask_rows, check_ask, row_sum
from thinslopes.errors import BadAsk, BadPath, BadPlan
from thinslopes.moulds import check_numbers
from thinslopes.ratios import ZERO, is_sequence, is_whole, is_worded

MOST_PARTS = 15
LENGTHS = {"ask": 3, "if": 4, "end": 1}


class Played:
    def __init__(self, path, answers):
        self.path = path
        self.answers = answers


def checked_ask(mould, ask, asks, path):
    """Return the ask in tuples; `asks` are those ahead of it on its path."""
    if len(asks) == MOST_ASKS:
        raise BadPlan(path, "ask")
    try:
        return check_ask(mould, ask)
    except BadAsk:
        raise BadPlan(path, "ask")


def answers_given(mould, asks):
    return sum([answers_of_kind(mould, kind) for kind, _ in asks])


def checked_part(mould, part, path, asks, paths):
    """Return the part in tuples; `paths` are those to all parts ahead of it in the plan, `asks` those on its path."""
    paths.append(path)
    if len(paths) > MOST_PARTS:
        raise BadPlan(path, "many")
    if not is_worded(part, dict(LENGTHS)):
        raise BadPlan(path, "kind")
    if part[0] == "end":
        return ("end",)
    if part[0] == "ask":
        ask = checked_ask(mould, part[1], asks, path)
        return ("ask", ask, checked_part(mould, part[2], (*path, 0), (*asks, ask), paths))
    if not is_whole(part[1], 0, answers_given(mould, asks) - 1):
        raise BadPlan(path, "answer")
    zero = checked_part(mould, part[2], (*path, 0), asks, paths)
    return ("if", part[1], zero, checked_part(mould, part[3], (*path, 1), asks, paths))


def check_plan(mould, plan):
    return checked_part(mould, plan, (), (), [])


def branches_below(part, path, book, tests):
    """Return the path, the book and the tests of each branch below a part of a checked plan, by ascending paths.

    A test is a couple: the number of an answer, and 0 if it must be 0 on the branch, 1 if it must not.
    """
    if part[0] == "end":
        return [(path, book, tests)]
    if part[0] == "ask":
        return branches_below(part[2], (*path, 0), (*book, part[1]), tests)
    zero = branches_below(part[2], (*path, 0), book, (*tests, (part[1], 0)))
    return zero + branches_below(part[3], (*path, 1), book, (*tests, (part[1], 1)))


def branches_of(plan):
    return branches_below(plan, (), (), ())


def branch_at(plan, path):
    """Return the path, the book and the tests of the branch with this path, or None."""
    if not is_sequence(path) or not all([is_whole(side) for side in path]):
        return None
    found = [branch for branch in branches_of(plan) if branch[0] == tuple(path)]
    return found[0] if found else None


def played(mould, plan, ratios):
    """Return the path of the branch that the filling goes, and all its answers."""
    part = plan
    path = []
    answers = []
    while part[0] != "end":
        side = 0
        if part[0] == "ask":
            kind, numbers = part[1]
            answers.extend([row_sum(row, ratios) for row in ask_rows(mould, kind, numbers)])
        elif answers[part[1]] != ZERO:
            side = 1
        path.append(side)
        # The rest of an ask stands where an "if" has the part for an answer of 0.
        part = part[2 + side]
    return tuple(path), tuple(answers)


def play_plan(mould, plan, numbers):
    parts = check_plan(mould, plan)
    path, answers = played(mould, parts, check_numbers(mould, numbers))
    return Played(path, answers)


def plan_book(mould, plan, path):
    branch = branch_at(check_plan(mould, plan), path)
    if branch is None:
        raise BadPath()
    return branch[1]


def zero_book(mould, plan):
    # The filling of zeros goes on with the first part at each "if"; so its path is the least.
    return branches_of(check_plan(mould, plan))[0][1]
