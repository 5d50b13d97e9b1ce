"""The branches of plans: which of them some filling goes, and what they tell of all fillings."""

from thinslopes.asks import answers_of_kind, check_book, span_rows
from thinslopes.errors import BadAnswers, BadAsk
from thinslopes.plans import branch_at, branches_of, check_plan, played
from thinslopes.ratios import ZERO, are_wholes, as_ratio, as_ratios, is_sequence, is_whole
from thinslopes.recover import recovered_from
from thinslopes.spans import hidden_basis, made_of, weights_for
from thinslopes.told import hidden_all, told_letters, weighted_row


class Come:
    def __init__(self, path, book, filling):
        self.path = path
        self.book = book
        self.filling = filling


class Never:
    def __init__(self, path, answer, weights):
        self.path = path
        self.answer = answer
        self.weights = weights


class Untold:
    def __init__(self, path, filling, hidden):
        self.path = path
        self.filling = filling
        self.hidden = hidden


def tested(tests, side):
    """Return the answers that the tests of a branch send to this side, in order."""
    return [answer for answer, sent in tests if sent == side]


def weights_from(rows, zeros, answer):
    """Return weights, 0 off the answers in zeros, by which an answer is the sum of these, or None."""
    found = weights_for([rows[zero] for zero in zeros], rows[answer])
    if found is None:
        return None
    weights = [ZERO] * len(rows)
    for zero, weight in zip(zeros, found.row):
        weights[zero] = weight
    return tuple(weights)


def with_other(numbers, basis, held, row):
    """Return a filling that makes something else than 0 with this row and with all those held, as `numbers` does.

    What is added is a sum of the basis.
    """
    if made_of(row, numbers) != 0:
        return numbers
    step = [hidden for hidden in basis if made_of(row, hidden) != 0][0]
    times = 1
    # Each row that is held bars one number of times at most, so the search ends.
    while 0 in [made_of(other, numbers) + times * made_of(other, step) for other in held]:
        times += 1
    return [number + times * more for number, more in zip(numbers, step)]


def filling_of_branch(rows, tests, width):
    """Return whole numbers that go a branch that can be come to."""
    basis = hidden_basis([rows[answer] for answer in tested(tests, 0)], width)
    numbers = [0] * width
    held = []
    for answer in tested(tests, 1):
        numbers = with_other(numbers, basis, held, rows[answer])
        held.append(rows[answer])
    return tuple(numbers)


def come_or_never(mould, branch):
    path, book, tests = branch
    rows = span_rows(mould, book)
    zeros = sorted(set(tested(tests, 0)))
    for answer in tested(tests, 1):
        weights = weights_from(rows, zeros, answer)
        if weights is not None:
            return Never(path, answer, weights)
    many = mould.letters_many
    return Come(path, book, as_ratios(filling_of_branch(rows, tests, many), many))


def plan_branches(mould, plan):
    for branch in branches_of(check_plan(mould, plan)):
        yield come_or_never(mould, branch)


def come_branches(mould, plan):
    """Return a Come for each branch that can be come to, by ascending paths."""
    return [branch for branch in plan_branches(mould, plan) if isinstance(branch, Come)]


def is_book_of_branch(mould, thing, book):
    try:
        check_book(mould, thing)
    except BadAsk:
        return False
    # A list is unlike a tuple here, since the book has to be made of tuples.
    return thing == book


def goes(mould, plan, path, ratios):
    return played(mould, plan, ratios)[0] == path


def come_word(mould, plan, branch, come):
    path, book, _ = branch
    if not is_book_of_branch(mould, come.book, book):
        return "book"
    ratios = as_ratios(come.filling, mould.letters_many)
    if ratios is None:
        return "filling"
    return None if goes(mould, plan, path, ratios) else "way"


def never_word(mould, branch, never):
    _, book, tests = branch
    rows = span_rows(mould, book)
    if not is_whole(never.answer) or never.answer not in tested(tests, 1):
        return "answer"
    ratios = as_ratios(never.weights, len(rows))
    zeros = tested(tests, 0)
    if ratios is None or any([ratio != ZERO and answer not in zeros for answer, ratio in enumerate(ratios)]):
        return "weights"
    many = mould.letters_many
    return None if weighted_row(rows, ratios, many) == as_ratios(rows[never.answer], many) else "sum"


def branch_fault(mould, plan, branch):
    parts = check_plan(mould, plan)
    right = branch_at(parts, branch.path)
    if right is None:
        return "path"
    return come_word(mould, parts, right, branch) if isinstance(branch, Come) else never_word(mould, right, branch)


def plan_letters(mould, plan):
    told = [told_letters(mould, branch.book) for branch in come_branches(mould, plan)]
    return tuple([letter for letter in told[0] if all([letter in letters for letters in told])])


def plan_told(mould, plan):
    for branch in come_branches(mould, plan):
        basis = hidden_all(mould, branch.book)
        if basis:
            return Untold(branch.path, branch.filling, basis[0])
    return None


def untold_fault(mould, plan, untold):
    parts = check_plan(mould, plan)
    branch = branch_at(parts, untold.path)
    if branch is None:
        return "path"
    many = mould.letters_many
    ratios = as_ratios(untold.filling, many)
    if ratios is None or not goes(mould, parts, branch[0], ratios):
        return "filling"
    if not are_wholes(untold.hidden, many) or not any([number != 0 for number in untold.hidden]):
        return "hidden"
    return "hidden" if any([made_of(row, untold.hidden) != 0 for row in span_rows(mould, branch[1])]) else None


def plan_counts(mould, plan):
    counts = [len(branch.book) for branch in come_branches(mould, plan)]
    return (min(counts), max(counts))


def next_answers(answers, known, many):
    """Return the answers to an ask, as ratios; `known` answers came ahead of them."""
    found = []
    for index in range(known, known + many):
        if index == len(answers):
            raise BadAnswers(index, "many")
        ratio = as_ratio(answers[index])
        if ratio is None:
            raise BadAnswers(index, "number")
        found.append(ratio)
    return found


def plan_recovered(mould, plan, answers):
    part = check_plan(mould, plan)
    if not is_sequence(answers):
        raise BadAnswers(0, "many")
    book = []
    ratios = []
    while part[0] != "end":
        side = 0
        if part[0] == "ask":
            book.append(part[1])
            ratios.extend(next_answers(answers, len(ratios), answers_of_kind(mould, part[1][0])))
        elif ratios[part[1]] != ZERO:
            side = 1
        part = part[2 + side]
    if len(answers) > len(ratios):
        raise BadAnswers(len(ratios), "many")
    return recovered_from(mould, book, ratios)
