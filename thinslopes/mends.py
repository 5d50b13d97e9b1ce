"""Goals of a mould and a book, the fewest edits that meet a goal, and the fewest that spoil it."""

from thinslopes.asks import answers_of_kind, check_book, span_rows
from thinslopes.edits import checked_edits, made_in_one_go, things_of
from thinslopes.errors import BadGoal, TooMany
from thinslopes.lost import MOST_ANSWERS, first_loss
from thinslopes.lots import has_part, lots_of
from thinslopes.moulds import is_couple
from thinslopes.ratios import is_whole, is_worded
from thinslopes.reading import read_letters
from thinslopes.taking import taken_wholly
from thinslopes.told import tells_all

MOST_LOST_OF_GOAL = 2
LENGTHS = {"told": 2, "all": 1, "read": 1, "taken": 1, "lost": 3}


def check_goal(mould, goal):
    if not is_worded(goal, dict(LENGTHS)):
        raise BadGoal("kind")
    if len(goal) == 1:
        return (goal[0],)
    if not is_couple(goal[1], mould.height, mould.width):
        raise BadGoal("cell")
    if goal[0] == "lost" and not is_whole(goal[2], 0, MOST_LOST_OF_GOAL):
        raise BadGoal("lost")
    return (goal[0], tuple(goal[1]), *goal[2:])


def check_few_for(mould, asks, goal):
    """Refuse too many answers for a goal "lost"."""
    if goal[0] == "lost" and sum([answers_of_kind(mould, kind) for kind, _ in asks]) > MOST_ANSWERS:
        raise TooMany(MOST_ANSWERS)


def is_cell_sure(mould, book, cell, most):
    """Tell whether the cell is a place whose letter is told though any so many answers are lost."""
    letter = mould.letters_by_place().get(cell)
    if letter is None:
        return False
    return first_loss(span_rows(mould, book), mould.letters_many, letter, most) is None


def is_goal_met(mould, book, goal):
    word = goal[0]
    if word == "all":
        return tells_all(mould, book)
    if word == "read":
        return len(read_letters(mould, book)) == mould.letters_many
    if word == "taken":
        return taken_wholly(mould, book).missing == ()
    return is_cell_sure(mould, book, goal[1], goal[2] if word == "lost" else 0)


def goal_met(mould, book, goal):
    asks = check_book(mould, book)
    wanted = check_goal(mould, goal)
    check_few_for(mould, asks, wanted)
    return is_goal_met(mould, asks, wanted)


def least_lots(mould, book, edits, goal, met):
    """Return the lots behind which the goal is met, or is not, without a part of which this can be said, too."""
    found = []
    for size in range(len(edits) + 1):
        for lot in lots_of(list(range(len(edits))), size):
            if not has_part(lot, found):
                changed, asks = made_in_one_go(mould, book, [edits[at] for at in lot])
                if is_goal_met(changed, asks, goal) == met:
                    found.append(lot)
    return tuple(found)


def lots_of_pool(mould, book, pool, goal, met):
    asks = check_book(mould, book)
    edits = checked_edits(mould, asks, pool)
    wanted = check_goal(mould, goal)
    check_few_for(mould, [*asks, *things_of(edits, "ask")], wanted)
    return least_lots(mould, asks, edits, wanted, met)


def find_mends(mould, book, pool, goal):
    return lots_of_pool(mould, book, pool, goal, True)


def find_spoilers(mould, book, pool, goal):
    return lots_of_pool(mould, book, pool, goal, False)
