"""Letters solved in lots, the ladder of the ways to know letters, and taking away on webs."""

from thinslopes.asks import span_rows
from thinslopes.errors import BadMost
from thinslopes.groupings import check_grouping
from thinslopes.lots import lots_of
from thinslopes.pieces import all_pieces, odd_ring
from thinslopes.ratios import is_whole, unshared
from thinslopes.reading import held_letters, read_letters, without_known
from thinslopes.sidegroups import side_told
from thinslopes.spans import rank_of
from thinslopes.taking import check_missing
from thinslopes.told import tells_all, told_letters

MOST_LOT = 10


class Solved:
    def __init__(self, steps, letters):
        self.steps = steps
        self.letters = letters


class Ladder:
    def __init__(self, read, taken, solved, told):
        self.read = read
        self.taken = taken
        self.solved = solved
        self.told = told


class Ring:
    def __init__(self, points):
        self.points = points


def answers_within(lefts, lot):
    """Return the answers that have left letters, all of them in the lot."""
    return tuple([answer for answer, left in enumerate(lefts) if left and without_known(left, lot) == ()])


def next_step(rows, many, known, most):
    """Return the next lot that can be solved, with its answers, or None."""
    lefts = [without_known(letters, known) for letters in held_letters(rows)]
    unknown = without_known(list(range(many)), known)
    for size in range(1, most + 1):
        for lot in lots_of(unknown, size):
            answers = answers_within(lefts, lot)
            if len(answers) >= size and rank_of([[rows[answer][at] for at in lot] for answer in answers]) == size:
                return (lot, answers)
    return None


def solved_rows(rows, many, most):
    steps = []
    known = []
    step = next_step(rows, many, known, most)
    while step is not None:
        steps.append(step)
        known.extend(step[0])
        step = next_step(rows, many, known, most)
    return Solved(tuple(steps), tuple(sorted(known)))


def solved_by(mould, book, most):
    rows = span_rows(mould, book)
    if not is_whole(most, 1, MOST_LOT):
        raise BadMost(unshared(most))
    if most > 1:
        check_missing(held_letters(rows), mould.letters_many)
    return solved_rows(rows, mould.letters_many, most)


def lot_size(mould, book):
    rows = span_rows(mould, book)
    many = mould.letters_many
    if many == 0:
        return 0
    if not tells_all(mould, book):
        return None
    check_missing(held_letters(rows), many)
    most = 1
    while len(solved_rows(rows, many, most).letters) < many:
        most += 1
    return most


def letter_ladder(mould, book):
    rows = span_rows(mould, book)
    many = mould.letters_many
    missing = check_missing(held_letters(rows), many)
    read = tuple([letter for letter, _ in read_letters(mould, book)])
    taken = without_known(list(range(many)), missing)
    return Ladder(read, taken, solved_rows(rows, many, MOST_LOT).letters, told_letters(mould, book))


def side_taken(web, grouping):
    groups = check_grouping(web.points, grouping)
    walk = side_told(web, groups)
    if walk is not None:
        return walk
    rings = [odd_ring(web, piece) for piece in all_pieces(web, groups)]
    long_rings = [ring for ring in rings if ring is not None and len(ring) > 1]
    return Ring(min(long_rings)) if long_rings else None
