import itertools
import random
from fractions import Fraction

from tests.helper import Case, as_ratios, wrong_answers, wrong_budgets
from tests.test_cores import BUDGETS, MOULDS, NOT_FREE, ORDER, OTHER_LINES, SEVEN, SHARED, SMALL, lines_of
from thinslopes.asks import book_answers, power_asks
from thinslopes.cores import core_of
from thinslopes.errors import BadAnswers, NotFree
from thinslopes.moulds import Mould
from thinslopes.powerbooks import both_book, powers_tell, struck_numbers
from thinslopes.told import told_letters

FULL = Mould(6, 6, list(itertools.product(range(6), repeat=2)))


def all_but(size, cells):
    return Mould(size, size, [cell for cell in itertools.product(range(size), repeat=2) if cell not in cells])


class BothBookTest(Case):
    """Point 6.4."""

    def test_books(self):
        book = (("column", (1, 1, 1)), ("column", (0, 1, 2)), ("row", (1, 1)))
        self.gives(book, both_book, SMALL, (2, 1))
        self.gives(book, both_book, budget=[2, 1], mould=SMALL)
        for mould in MOULDS[::5]:
            for columns, rows in BUDGETS:
                book = power_asks("column", mould.width, columns) + power_asks("row", mould.height, rows)
                self.gives(book, both_book, mould, (columns, rows))
        self.gives((), both_book, SMALL, (0, 0))

    def test_powers_tell(self):
        chance = random.Random(111)
        kinds = set()
        for mould in MOULDS:
            for budget in chance.sample(BUDGETS, 5):
                tells = len(told_letters(mould, both_book(mould, budget))) == len(mould)
                self.gives(tells, powers_tell, mould, list(budget))
                kinds.add((tells, core_of(mould, budget).cells == ()))
                if core_of(mould, budget).cells == ():
                    self.assertTrue(tells)
        self.assertLessEqual({(True, True), (False, False)}, kinds)

    def test_the_example(self):
        mould = all_but(4, [(0, 1), (1, 0), (2, 2), (3, 3)])
        self.same(vars(core_of(mould, (2, 2))), {"strikes": (), "cells": mould.cells})
        self.gives(True, powers_tell, mould, (2, 2))

    def test_budgets_of_one_kind_tell_all_exactly_if_the_core_is_empty(self):
        for mould in MOULDS[:70]:
            for budget in [(number, 0) for number in range(4)] + [(0, number) for number in range(4)] + [(1, 1)]:
                self.gives(core_of(mould, budget).cells == (), powers_tell, mould, budget)

    def test_edges(self):
        self.gives(True, powers_tell, Mould(3, 3, []), (0, 0))
        self.gives(False, powers_tell, SMALL, (0, 0))
        self.gives(True, powers_tell, FULL, (6, 2))
        self.gives(False, powers_tell, FULL, (4, 4))

    def test_errors(self):
        for call in (both_book, powers_tell):
            self.refuses_in_order(call, (SHARED, (1, 1)), [(1, wrong_budgets()), NOT_FREE])


class StruckNumbersTest(Case):
    """Point 6.5."""

    def test_the_numbers_of_a_filling(self):
        chance = random.Random(112)
        solved = 0
        for mould in MOULDS:
            for budget in chance.sample(BUDGETS, 6):
                numbers = as_ratios(Fraction(chance.randint(-9, 9), chance.choice((1, 2, 3))) for _ in mould)
                answers = book_answers(mould, both_book(mould, budget), numbers)
                core = core_of(mould, budget).cells
                expected = tuple(None if cell in core else number for cell, number in zip(mould.cells, numbers))
                self.gives(expected, struck_numbers, mould, budget, list(answers))
                order = chance.sample(lines_of(mould), mould.height + mould.width)
                self.gives(expected, struck_numbers, mould, list(budget), answers, [list(line) for line in order])
                solved += len(expected) - expected.count(None)
        self.assertGreater(solved, 200)

    def test_the_example_of_point_6_2(self):
        numbers = ((1, 1), (2, 1), (3, 1), (4, 1), (5, 1), (6, 1), (7, 1))
        answers = book_answers(SEVEN, both_book(SEVEN, (2, 1)), numbers)
        self.gives(numbers, struck_numbers, SEVEN, (2, 1), answers)
        self.gives(numbers, struck_numbers, order=None, answers=answers, budget=(2, 1), mould=SEVEN)

    def test_letters_of_the_core_are_none_though_they_are_told(self):
        mould = all_but(4, [(0, 1), (1, 0), (2, 2), (3, 3)])
        answers = book_answers(mould, both_book(mould, (2, 2)), list(range(12)))
        self.gives((None,) * 12, struck_numbers, mould, (2, 2), answers)

    def test_full_tables(self):
        numbers = tuple((number * number - 40, 1) for number in range(36))
        for budget in ((6, 2), (2, 6), (6, 0), (0, 6)):
            answers = book_answers(FULL, both_book(FULL, budget), numbers)
            self.gives(numbers, struck_numbers, FULL, budget, answers)

    def test_edges(self):
        self.gives((), struck_numbers, Mould(2, 3, []), (1, 1), [0] * 5)
        self.gives((None, None), struck_numbers, SMALL, (0, 0), [])
        self.gives(((1, 2), (1, 3)), struck_numbers, SMALL, (1, 0), [(1, 2), (1, 3)])

    def test_errors(self):
        # A budget of (1, 1) has 2 + 3 answers.
        wrong = [(1, wrong_budgets()), (2, wrong_answers(5)), (3, OTHER_LINES)]
        self.refuses_in_order(struck_numbers, (SMALL, (1, 1), [0] * 5, ORDER), wrong)
        right = (("row", 0), ("row", 1), ("column", 0), ("column", 1))
        wrong = [(1, wrong_budgets()), (2, wrong_answers(4)), (3, OTHER_LINES[:5]), NOT_FREE]
        self.refuses_in_order(struck_numbers, (SHARED, (1, 1), [0] * 4, right), wrong)
        self.refuses(BadAnswers(0, "many"), struck_numbers, SMALL, (0, 0), [1])
        self.refuses(NotFree(), struck_numbers, SHARED, (1, 0), [0, 0])
