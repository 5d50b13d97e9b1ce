"""The bench: a mould and a book that are edited, answers that are put in, and what follows from them."""

from thinslopes.asks import check_book
from thinslopes.edits import check_pool, edited, made_in_one_go
from thinslopes.errors import BadBench, Clashing, NoAnswers, NothingDone
from thinslopes.mends import goal_met
from thinslopes.moulds import Mould
from thinslopes.recover import Clash, check_answers, known_rows, recovered_from


class Bench:
    def __init__(self, mould, book):
        if not isinstance(mould, Mould):
            raise BadBench()
        self.mould, self.book = made_in_one_go(mould, check_book(mould, book), ())
        # What the four properties are now stands last; ahead of it, what they were before each thing done.
        self._states = [(self.mould, self.book, None, ())]

    @property
    def now_mould(self):
        return self._states[-1][0]

    @property
    def now_book(self):
        return self._states[-1][1]

    @property
    def now_answers(self):
        return self._states[-1][2]

    @property
    def done_log(self):
        return self._states[-1][3]

    def change(self, *edits):
        pool = check_pool(self.now_mould, self.now_book, edits)
        mould, book = made_in_one_go(self.now_mould, self.now_book, pool)
        self._states.append((mould, book, None, (*self.done_log, ("change", pool))))

    def put_answers(self, numbers):
        answers = check_answers(self.now_mould, self.now_book, numbers)
        found = recovered_from(self.now_mould, self.now_book, answers)
        if isinstance(found, Clash):
            raise Clashing(found.weights)
        log = (*self.done_log, ("answers", answers))
        self._states.append((self.now_mould, self.now_book, answers, log))

    def take_back(self):
        if len(self._states) == 1:
            raise NothingDone()
        self._states.pop()

    def known_table(self):
        if self.now_answers is None:
            raise NoAnswers()
        return known_rows(self.now_mould, recovered_from(self.now_mould, self.now_book, self.now_answers).numbers)

    def is_met(self, goal):
        return goal_met(self.now_mould, self.now_book, goal)

    def trial(self, *edits, goal):
        mould, book = edited(self.now_mould, self.now_book, edits)
        return goal_met(mould, book, goal)
