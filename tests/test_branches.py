import inspect
import itertools
import random

from tests.helper import (
    NO_NUMBERS, Case, as_fraction, not_sequences, not_wholes, rank_by_fractions, weighted,
)
from tests.test_plans import (
    COLUMN, END, PATHS, PLAN, PLANS, ROW, SMALL, WRONG_PLANS, asks_in_a_row, branches, gone, in_lists,
)
from thinslopes.asks import book_answers, span_rows
from thinslopes.branches import (
    Come, Never, Untold, branch_fault, plan_branches, plan_counts, plan_letters, plan_recovered, plan_told,
    untold_fault,
)
from thinslopes.errors import BadAnswers
from thinslopes.moulds import Mould
from thinslopes.recover import Clash, Recovered, clash_fault, recovered_from
from thinslopes.told import hidden_all, told_letters


def told_sides(plan, path):
    """The answers that must be 0 on the branch, and those that must not, in order."""
    sides = ([], [])
    part = plan
    for side in path:
        if part[0] == "if":
            sides[side].append(part[1])
        part = part[2 + side]
    return sides


def first_bar(mould, plan, path, book):
    """The first answer that must not be 0 and is a sum of those that must be, or None, by point 7.10."""
    rows = span_rows(mould, book)
    zeros, others = told_sides(plan, path)
    known = [rows[zero] for zero in zeros]
    for answer in others:
        if rank_by_fractions([*known, rows[answer]]) == rank_by_fractions(known):
            return answer
    return None


def open_branches(mould, plan):
    return [(path, book) for path, book in branches(plan) if first_bar(mould, plan, path, book) is None]


class PlanBranchesTest(Case):
    """Point 7.10: plan_branches."""

    def test_each_branch(self):
        kinds = set()
        for mould, plan in PLANS:
            found = self.taken(lambda mould, plan: tuple(plan_branches(mould, plan)), mould, in_lists(plan))
            self.assertEqual([branch.path for branch in found], [path for path, book in branches(plan)])
            self.assertEqual([branch.path for branch in found], sorted(branch.path for branch in found))
            for branch, (path, book) in zip(found, branches(plan)):
                bar = first_bar(mould, plan, path, book)
                kinds.add(type(branch))
                self.assertIsNone(branch_fault(mould, plan, branch))
                if bar is None:
                    self.assertIsInstance(branch, Come)
                    self.same(branch.book, book)
                    self.assertEqual(gone(mould, plan, branch.filling).path, path)
                    self.assertTrue(all(isinstance(number, tuple) for number in branch.filling))
                else:
                    self.check_never(mould, plan, branch, book, bar)
        self.assertEqual(kinds, {Come, Never})

    def check_never(self, mould, plan, branch, book, bar):
        self.assertIsInstance(branch, Never)
        self.assertEqual(branch.answer, bar)
        rows = span_rows(mould, book)
        self.assertEqual(len(branch.weights), len(rows))
        self.assertEqual(weighted(rows, branch.weights, mould.letters_many), list(rows[bar]))
        zeros, _ = told_sides(plan, branch.path)
        for answer, weight in enumerate(branch.weights):
            self.assertTrue(isinstance(weight, tuple) and (answer in zeros or weight == (0, 1)))

    def test_no_filling_goes_a_branch_that_cannot_be_come_to(self):
        for mould, plan in PLANS:
            if mould.letters_many <= 4:
                went = {gone(mould, plan, numbers).path
                        for numbers in itertools.product((-2, -1, 0, 1), repeat=mould.letters_many)}
                self.assertLessEqual(went, {path for path, book in open_branches(mould, plan)})

    def test_an_end_alone(self):
        self.same(list(plan_branches(SMALL, END)), [Come((), (), ((0, 1),) * 3)])
        self.same(list(plan_branches(plan=END, mould=Mould(1, 1, []))), [Come((), (), ())])

    def test_an_answer_that_must_and_must_not_be_0(self):
        plan = ("ask", COLUMN, ("if", 0, ("if", 0, END, END), ("if", 0, END, END)))
        found = list(plan_branches(SMALL, plan))
        self.assertEqual([type(branch) for branch in found], [Come, Never, Never, Come])
        for branch in found[1:3]:
            self.same((branch.answer, branch.weights), (0, ((1, 1), (0, 1))))

    def test_answers_without_letters_are_0(self):
        plan = ("ask", ("column", (0, 0, 0)), ("if", 1, END, ("if", 0, END, END)))
        found = list(plan_branches(SMALL, plan))
        self.assertEqual([type(branch) for branch in found], [Come, Never, Never])
        self.same(found[2], Never((0, 1, 1), 1, ((0, 1), (0, 1))))
        # The first in the order of the ifs is told.
        self.same(found[1], Never((0, 1, 0), 1, ((0, 1), (0, 1))))

    def test_many_answers_that_must_not_be_0(self):
        """A filling must keep off the zeros of all of them at once."""
        mould = Mould(1, 3, [(0, 0), (0, 1), (0, 2)])
        for numbers in itertools.product(((1, -1, 0), (1, 1, 1), (0, 1, -2)), repeat=3):
            plan = ("if", 0, END, ("if", 1, END, ("if", 2, END, END)))
            for ask in reversed(numbers):
                plan = ("ask", ("column", ask), plan)
            for branch in plan_branches(mould, plan):
                self.assertIsNone(branch_fault(mould, plan, branch))

    def test_it_is_a_generator(self):
        self.assertTrue(inspect.isgeneratorfunction(plan_branches))

    def test_wrong_plans(self):
        self.refuses_in_order(lambda mould, plan: list(plan_branches(mould, plan)), (SMALL, PLAN), [(1, WRONG_PLANS)])


class BranchFaultTest(Case):
    """Point 7.10: branch_fault."""

    # The last branch asks whether twice the first answer is 0, which must be 0 there.
    plan = ("ask", COLUMN, ("ask", ("column", (2, 0, 4)), ("if", 0, ("if", 2, END, END), END)))
    come = Come((0, 0, 1), (COLUMN, ("column", (2, 0, 4))), ((1, 2), 5, 0))
    never = Never((0, 0, 0, 1), 2, (2, 0, 0, 0))

    def judged(self, word, branch):
        self.gives(word, branch_fault, SMALL, self.plan, branch)

    def with_one(self, branch, name, thing):
        kept = dict(vars(branch))
        kept[name] = thing
        return type(branch)(**kept)

    def test_right_branches(self):
        self.judged(None, self.come)
        self.judged(None, self.never)
        self.judged(None, self.with_one(self.come, "path", [0, 0, 1]))
        self.judged(None, self.with_one(self.come, "filling", [3, 0, (1, 7)]))
        self.judged(None, self.with_one(self.never, "weights", [(2, 1), (0, 1), 0, 0]))
        self.gives(None, branch_fault, branch=Come([], (), [1, 2, 3]), plan=["end"], mould=SMALL)

    def test_path(self):
        for thing in [*not_sequences(), (), (0,), (0, 0), (0, 0, 0), (0, 0, 2), (0, 0, True), (0, 1, 1), (0, 0, 1, 0)]:
            self.judged("path", self.with_one(self.come, "path", thing))
            self.judged("path", self.with_one(self.never, "path", thing))

    def test_book(self):
        right = self.come.book
        for thing in [*not_sequences(), (), list(right), right[:1], (*right, COLUMN), right[::-1], (COLUMN, COLUMN),
                      (list(COLUMN), right[1]), (("column", [1, 0, 2]), right[1]), (None, right[1]),
                      (("column", (True, False, 2)), right[1]), (("column", (1.0, 0, 2)), right[1])]:
            self.judged("book", self.with_one(self.come, "book", thing))

    def test_filling(self):
        for thing in [*not_sequences(), (), (1, 0), (1, 0, 0, 0), *[(1, number, 0) for number in [*NO_NUMBERS, None]]]:
            self.judged("filling", self.with_one(self.come, "filling", thing))

    def test_way(self):
        self.judged("way", self.with_one(self.come, "filling", (0, 0, 0)))
        self.judged("way", Come((0, 0, 0, 0), self.come.book, (1, 0, 0)))
        # No filling goes this one.
        self.judged("way", Come((0, 0, 0, 1), self.come.book, (0, 0, 0)))

    def test_answer(self):
        for thing in [*not_wholes(), 0, 1, 3, -1, 4, -2]:
            self.judged("answer", self.with_one(self.never, "answer", thing))
        self.judged("answer", Never((0, 0, 0, 0), 2, (2, 0, 0, 0)))
        self.judged("sum", Never((0, 0, 1), 0, (0, 0, 0, 0)))

    def test_an_answer_that_is_no_first_one_may_be_told(self):
        plan = ("ask", ("column", (0, 0, 0)), ("if", 1, END, ("if", 0, END, END)))
        self.gives(None, branch_fault, SMALL, plan, Never((0, 1, 1), 0, (0, 0)))
        self.gives(None, branch_fault, SMALL, plan, Never((0, 1, 1), 1, (0, 0)))
        self.gives("answer", branch_fault, SMALL, plan, Never((0, 1, 0), 0, (0, 0)))
        # True stands in the place of the answer 1.
        self.gives("answer", branch_fault, SMALL, plan, Never((0, 1, 1), True, (0, 0)))

    def test_weights(self):
        for thing in [*not_sequences(), (), (2, 0, 0), (2, 0, 0, 0, 0), *[(2, 0, 0, bad) for bad in NO_NUMBERS],
                      (0, 0, 1, 0), (2, 0, 0, 1), (2, (1, 2), 0, 0)]:
            self.judged("weights", self.with_one(self.never, "weights", thing))

    def test_sum(self):
        for thing in [(0, 0, 0, 0), (1, 0, 0, 0), [-2, 0, 0, 0], ((1, 2), 0, 0, 0)]:
            self.judged("sum", self.with_one(self.never, "weights", thing))

    def test_two_words_at_once(self):
        self.judged("path", Come((0,), None, None))
        self.judged("book", Come((0, 0, 1), None, None))
        self.judged("filling", Come((0, 0, 1), self.come.book, None))
        self.judged("path", Never((0,), None, None))
        self.judged("answer", Never((0, 0, 0, 1), 0, None))
        self.judged("weights", Never((0, 0, 0, 1), 2, (1, 0, 1, 0)))

    def test_wrong_plans(self):
        self.refuses_in_order(branch_fault, (SMALL, PLAN, Come(None, None, None)), [(1, WRONG_PLANS)])


class PlanToldTest(Case):
    """Point 7.11."""

    def test_letters(self):
        kinds = set()
        for mould, plan in PLANS:
            told = [set(told_letters(mould, book)) for path, book in open_branches(mould, plan)]
            right = tuple(sorted(set.intersection(*told)))
            self.gives(right, plan_letters, mould, in_lists(plan))
            untold = self.taken(plan_told, mould, in_lists(plan))
            self.assertIs(untold is None, len(right) == mould.letters_many)
            kinds.add(untold is None)
            if untold is not None:
                self.check_untold(mould, plan, untold)
        self.assertEqual(kinds, {True, False})

    def check_untold(self, mould, plan, untold):
        self.assertIsInstance(untold, Untold)
        right = [(path, book) for path, book in open_branches(mould, plan)
                 if len(told_letters(mould, book)) < mould.letters_many]
        self.assertEqual(untold.path, right[0][0])
        self.assertIsNone(untold_fault(mould, plan, untold))
        self.assertEqual([type(number) for number in untold.hidden], [int] * mould.letters_many)
        self.assertTrue(any(untold.hidden))
        # The filling, and the same with the hidden one added, go one branch with the same answers.
        played = gone(mould, plan, untold.filling)
        self.assertEqual(played.path, untold.path)
        both = [(number[0] + more * number[1], number[1]) for number, more in zip(untold.filling, untold.hidden)]
        self.same(gone(mould, plan, both), played)

    def test_a_letter_that_is_told_has_one_number_in_all_fillings_with_the_same_answers(self):
        for mould, plan in PLANS:
            if 0 < mould.letters_many <= 3:
                told = plan_letters(mould, plan)
                numbers_by = {}
                for numbers in itertools.product((-1, 0, 1, 2), repeat=mould.letters_many):
                    numbers_by.setdefault(repr(vars(gone(mould, plan, numbers))), []).append(numbers)
                for fillings in numbers_by.values():
                    for letter in told:
                        self.assertEqual(len({numbers[letter] for numbers in fillings}), 1)

    def test_counts(self):
        unlike = 0
        for mould, plan in PLANS:
            counts = [len(book) for path, book in open_branches(mould, plan)]
            self.gives((min(counts), max(counts)), plan_counts, mould, in_lists(plan))
            unlike += min(counts) < max(counts)
        self.assertGreater(unlike, 5)

    def test_a_plan_that_tells_all_spares_no_ask(self):
        """Its branches are books that tell all, so none has fewer asks than the fewest book."""
        mould = Mould(2, 2, [(0, 0), (0, 1), (1, 0), (1, 1)])
        whole = ("ask", ("column", (1, 0)), ("if", 0, ("ask", ("column", (0, 1)), END), (
            "ask", ("column", (1, 1)), END)))
        self.gives(None, plan_told, mould, whole)
        self.gives((0, 1, 2, 3), plan_letters, mould, whole)
        self.gives((2, 2), plan_counts, plan=whole, mould=mould)

    def test_edges(self):
        self.same(plan_told(SMALL, END), Untold((), ((0, 1),) * 3, (1, 0, 0)))
        self.gives((), plan_letters, SMALL, END)
        self.gives((0, 0), plan_counts, SMALL, END)
        self.gives(None, plan_told, Mould(2, 2, []), END)
        self.gives((), plan_letters, plan=END, mould=Mould(2, 2, []))
        self.gives((8, 8), plan_counts, SMALL, asks_in_a_row(8))
        # The branch that no filling goes asks nothing more, and does not count.
        plan = ("ask", ("column", (0, 0, 0)), ("if", 0, ("ask", COLUMN, END), END))
        self.gives((2, 2), plan_counts, SMALL, plan)
        self.gives((0, 2), plan_letters, Mould(2, 3, [(0, 0), (0, 1), (1, 2)]), (
            "ask", ("column", (0, 0, 0)), ("if", 0, ("ask", ("column", (1, 0, 1)), END), END)))

    def test_wrong_plans(self):
        for call in (plan_letters, plan_told, plan_counts):
            self.refuses_in_order(call, (SMALL, PLAN), [(1, WRONG_PLANS)])


class UntoldFaultTest(Case):
    """Point 7.11: untold_fault."""

    def judged(self, word, path, filling, hidden):
        self.gives(word, untold_fault, SMALL, PLAN, Untold(path, filling, hidden))

    def test_right_ones(self):
        plan = ("ask", COLUMN, ("if", 0, END, ("if", 1, END, END)))
        self.assertEqual(hidden_all(SMALL, [COLUMN]), ((0, 1, 0),))
        self.gives(None, untold_fault, SMALL, plan, Untold((0, 1, 0), (1, 0, -2), (0, 1, 0)))
        self.gives(None, untold_fault, SMALL, plan, Untold([0, 0], [0, 9, (0, 1)], [0, -7, 0]))
        self.gives(None, untold_fault, untold=Untold((0, 1, 0), (1, 0, -2), (0, 1, 0)), plan=PLAN, mould=SMALL)

    def test_path(self):
        for thing in [*not_sequences(), (), (0,), (0, 1), (0, 1, 2), (0, True, 0), (0, 1, 0, 0)]:
            self.judged("path", thing, (1, 0, -2), (0, 1, 0))

    def test_filling(self):
        for thing in [*not_sequences(), (1, 0), (1, 0, -2, 0), *[(1, bad, -2) for bad in NO_NUMBERS], (0, 0, 0),
                      (1, 0, 0)]:
            self.judged("filling", (0, 1, 0), thing, (0, 1, 0))

    def test_hidden(self):
        for thing in [*not_sequences(), (0, 1), (0, 1, 0, 0), *[(0, bad, 0) for bad in not_wholes()], (0, 0, 0),
                      (1, 0, 0), (0, 0, 1), (0, (1, 1), 0)]:
            self.judged("hidden", (0, 1, 0), (1, 0, -2), thing)

    def test_two_words_at_once(self):
        self.judged("path", (0, 1), None, None)
        self.judged("filling", (0, 1, 0), (0, 0, 0), None)

    def test_wrong_plans(self):
        self.refuses_in_order(untold_fault, (SMALL, PLAN, Untold(None, None, None)), [(1, WRONG_PLANS)])


class PlanRecoveredTest(Case):
    """Point 7.12."""

    def test_answers_of_fillings(self):
        chance = random.Random(201)
        for mould, plan in PLANS:
            for _ in range(3):
                numbers = [chance.choice((0, 0, 1, -1, (1, 2), 3)) for _ in range(mould.letters_many)]
                played = gone(mould, plan, numbers)
                found = self.taken(plan_recovered, mould, in_lists(plan), list(played.answers))
                book = dict(branches(plan))[played.path]
                right = recovered_from(mould, book, played.answers)
                self.assertIsInstance(found, Recovered)
                self.same(found.numbers, right.numbers)
                self.same(book_answers(mould, book, found.filling), played.answers)
                for number, known in zip(numbers, found.numbers):
                    self.assertTrue(known is None or as_fraction(known) == as_fraction(number))

    def test_answers_that_clash(self):
        plan = ("ask", COLUMN, ("ask", COLUMN, ("if", 0, END, ("if", 2, END, END))))
        for answers in ((1, 0, 0, 0), [1, 5, 2, 5], (0, 0, 1, 0)):
            found = self.taken(plan_recovered, SMALL, plan, answers)
            self.assertIsInstance(found, Clash)
            self.assertIsNone(clash_fault(SMALL, (COLUMN, COLUMN), answers, found))

    def test_the_answers_choose_the_branch(self):
        for path, answers in zip(PATHS, ((0, 0, 0, 5, 0), (0, 0, 1, 0, 0), (4, 0), ((1, 2), 1, 0, 0, 0))):
            book = dict(branches(PLAN))[path]
            self.same(plan_recovered(SMALL, PLAN, answers), recovered_from(SMALL, book, answers))
        self.same(plan_recovered(SMALL, END, []), recovered_from(SMALL, (), ()))

    def test_errors(self):
        wrong = [(thing, BadAnswers(0, "many")) for thing in [*not_sequences(), (), []]]
        wrong += [((0,), BadAnswers(1, "many")), ([0, 0], BadAnswers(2, "many")), ((0,) * 4, BadAnswers(4, "many"))]
        wrong += [((4, 0, 0), BadAnswers(2, "many")), ([4, 0, None], BadAnswers(2, "many"))]
        wrong += [((0,) * 6, BadAnswers(5, "many")), ((1, 2, 0, 0, 0, None, 0), BadAnswers(5, "many"))]
        for thing in [*NO_NUMBERS, None]:
            wrong += [((thing,), BadAnswers(0, "number")), ([0, thing], BadAnswers(1, "number"))]
            wrong += [((0, 0, thing, 0, 0, 0), BadAnswers(2, "number")), ((1, thing, 0), BadAnswers(1, "number"))]
        self.refuses_in_order(plan_recovered, (SMALL, PLAN, (4, 0)), [(1, WRONG_PLANS), (2, wrong)])

    def test_answer_by_answer(self):
        """A lack of answers is told where it is met, a wrong number ahead of it."""
        self.refuses(BadAnswers(1, "number"), plan_recovered, SMALL, PLAN, (0, None, 0))
        self.refuses(BadAnswers(3, "many"), plan_recovered, SMALL, PLAN, (0, 0, 0))
        self.refuses(BadAnswers(0, "many"), plan_recovered, SMALL, END, [None])


class LimitsTest(Case):
    """Plans of fifteen parts and eight asks on a table of 6 by 6."""

    def test_large_plans(self):
        chance = random.Random(202)
        mould = Mould(6, 6, list(itertools.product(range(6), repeat=2)))
        asks = [(kind, tuple(chance.randint(-10 ** 9, 10 ** 9) for _ in range(6)))
                for kind in ("column", "row", "column", "row", "column", "row", "column", "column")]
        plan = ("if", 3, ("if", 4, ("if", 5, END, END), END), END)
        for ask in asks:
            plan = ("ask", ask, plan)
        self.assertEqual(len(branches(plan)), 4)
        self.assertEqual(plan_counts(mould, plan), (8, 8))
        for branch in plan_branches(mould, plan):
            self.assertIsInstance(branch, Come)
            self.assertIsNone(branch_fault(mould, plan, branch))
        untold = plan_told(mould, plan)
        if untold is not None:
            self.assertIsNone(untold_fault(mould, plan, untold))
        self.assertEqual(plan_letters(mould, plan), told_letters(mould, tuple(reversed(asks))))

    def test_lots_of_ifs(self):
        mould = Mould(1, 6, [(0, at) for at in range(6)])
        plan = END
        for answer in reversed(range(6)):
            plan = ("if", answer, plan, END)
        plan = ("ask", ("row", (1,)), plan)
        found = list(plan_branches(mould, plan))
        self.assertEqual([type(branch) for branch in found], [Come] * 7)
