import itertools
import random
from math import gcd

from tests.helper import (
    NO_NUMBERS, Case, all_moulds, as_fraction, is_told, not_sequences, random_book, random_mould, rank_by_fractions,
    unit, weighted, wrong_books, wrong_letters,
)
from thinslopes.asks import book_answers, power_asks, span_rows
from thinslopes.groupings import book_of
from thinslopes.moulds import Mould
from thinslopes.ratios import is_ratio
from thinslopes.spans import Weights, hidden_basis
from thinslopes.told import (
    Hidden, hidden_all, hidden_fault, tells_all, told_by, told_letters, weights_fault,
)
from thinslopes.webs import Web

TRIANGLE = Web(3, [(0, 1), (0, 2), (1, 2)]).as_mould()
ONE_GROUP = book_of((0, 0, 0))
BOOKS = [
    [], [("column", (1, 1))], [("row", (1, -1))], [("column", (0, 0)), ("row", (0, 0))],
    [("column", (1, 2)), ("row", (1, 1))], [("column", (2, 0)), ("row", (0, 3))],
    [("column", (1, 1)), ("column", (1, 2))],
]


def some_cases():
    cases = [(mould, book) for mould in all_moulds(2, 2) for book in BOOKS]
    chance = random.Random(23)
    for _ in range(120):
        mould = random_mould(chance, chance.randint(1, 4), chance.randint(1, 4))
        cases.append((mould, random_book(chance, mould, 5)))
    return cases


CASES = some_cases()
EIGHT = power_asks("column", 6, 4) + power_asks("row", 6, 4)
FULL = Mould(6, 6, list(itertools.product(range(6), repeat=2)))


class ToldByTest(Case):
    """Points 2.3 and 2.4: told_by."""

    def right_weights(self, mould, rows, letter, weights):
        self.assertEqual(len(weights.row), len(rows))
        self.assertTrue(all(is_ratio(weight) for weight in weights.row))
        many = mould.letters_many
        self.assertEqual(weighted(rows, weights.row, many), list(unit(many, letter)))

    def right_hidden(self, mould, rows, letter, hidden):
        self.assertEqual([type(number) for number in hidden.numbers], [int] * mould.letters_many)
        self.assertEqual(gcd(*hidden.numbers), 1)
        self.assertEqual([sum(a * b for a, b in zip(row, hidden.numbers)) for row in rows], [0] * len(rows))
        self.assertNotEqual(hidden.numbers[letter], 0)

    def test_told_and_hidden_letters(self):
        kinds = set()
        for mould, book in CASES:
            rows = span_rows(mould, book)
            for letter in range(mould.letters_many):
                found = self.taken(told_by, mould, book, letter)
                kinds.add(type(found))
                if is_told(mould, rows, letter):
                    self.assertIs(type(found), Weights)
                    self.right_weights(mould, rows, letter, found)
                    self.gives(None, weights_fault, mould, book, letter, found)
                else:
                    self.assertIs(type(found), Hidden)
                    self.right_hidden(mould, rows, letter, found)
                    self.gives(None, hidden_fault, mould, book, letter, found)
        self.assertEqual(kinds, {Weights, Hidden})

    def test_halves(self):
        self.gives(Weights(((1, 2), (1, 2), (-1, 2))), told_by, TRIANGLE, ONE_GROUP, 0)
        self.gives(Weights(((1, 2), (-1, 2), (1, 2))), told_by, letter=1, book=ONE_GROUP, mould=TRIANGLE)

    def test_the_empty_book_tells_nothing(self):
        self.gives(Hidden((0, 1, 0)), told_by, TRIANGLE, [], 1)

    def test_asks_that_are_all_0_tell_nothing(self):
        for letter in range(3):
            self.gives(Hidden(unit(3, letter)), told_by, TRIANGLE, [("column", [0] * 3), ("row", [0] * 3)], letter)

    def test_eight_asks_on_a_full_table(self):
        rows = span_rows(FULL, EIGHT)
        for letter in (0, 17, 35):
            self.right_hidden(FULL, rows, letter, told_by(FULL, EIGHT, letter))
        more = power_asks("column", 6, 6) + power_asks("row", 6, 2)
        for letter in (0, 17, 35):
            self.right_weights(FULL, span_rows(FULL, more), letter, told_by(FULL, more, letter))

    def test_greatest_numbers(self):
        chance = random.Random(24)
        book = [(kind, [chance.choice((1, -1)) * (10 ** 9 - chance.randint(0, 9)) for _ in range(6)])
                for kind in ("column",) * 6 + ("row",) * 2]
        rows = span_rows(FULL, book)
        for letter in (0, 35):
            self.right_weights(FULL, rows, letter, told_by(FULL, book, letter))
            self.right_hidden(FULL, rows[:30], letter, told_by(FULL, [*book[:5], ("column", [0] * 6)], letter))

    def test_wrong_arguments(self):
        wrong = [(1, wrong_books(TRIANGLE)), (2, wrong_letters(TRIANGLE))]
        self.refuses_in_order(told_by, (TRIANGLE, ONE_GROUP, 0), wrong)
        for judge, thing in ((weights_fault, Weights(None)), (hidden_fault, Hidden(None))):
            self.refuses_in_order(judge, (TRIANGLE, ONE_GROUP, 0, thing), wrong)


class JudgeTest(Case):
    """Point 2.4: weights_fault and hidden_fault."""

    def test_right_weights(self):
        for row in (((1, 2), (1, 2), (-1, 2)), [(1, 2), (1, 2), (-1, 2)]):
            self.gives(None, weights_fault, TRIANGLE, ONE_GROUP, 0, Weights(row))
        mould = Mould(1, 2, [(0, 0), (0, 1)])
        self.gives(None, weights_fault, mould, [("row", [1])], 0, Weights([1, 0]))
        self.gives(None, weights_fault, weights=Weights((1, (0, 1))), letter=0, book=[("row", [1])], mould=mould)

    def test_any_right_weights_are_right(self):
        mould = Mould(1, 1, [(0, 0)])
        book = [("column", (1,)), ("row", (1,)), ("row", (2,))]
        for weights in itertools.product((-1, 0, 1, (1, 2)), repeat=3):
            right = as_fraction(weights[0]) + as_fraction(weights[1]) + 2 * as_fraction(weights[2]) == 1
            self.gives(None if right else "letter", weights_fault, mould, book, 0, Weights(weights))

    def test_many(self):
        for thing in [*not_sequences(), [], [1] * 2, (1,) * 4]:
            self.gives("many", weights_fault, TRIANGLE, ONE_GROUP, 0, Weights(thing))
            self.gives("many", hidden_fault, TRIANGLE, ONE_GROUP, 0, Hidden(thing))
        for thing in NO_NUMBERS:
            self.gives("many", weights_fault, TRIANGLE, ONE_GROUP, 0, Weights([0, 0, thing]))
            self.gives("many", hidden_fault, TRIANGLE, [], 0, Hidden((1, thing, 1)))

    def test_letter_of_weights(self):
        self.gives("letter", weights_fault, TRIANGLE, ONE_GROUP, 1, Weights(((1, 2), (1, 2), (-1, 2))))
        self.gives("letter", weights_fault, TRIANGLE, ONE_GROUP, 0, Weights([1, 1, -1]))
        self.gives("letter", weights_fault, TRIANGLE, ONE_GROUP, 0, Weights([0, 0, 0]))
        self.gives("letter", weights_fault, TRIANGLE, [], 0, Weights(()))

    def test_right_hidden_fillings(self):
        mould = Mould(1, 2, [(0, 0), (0, 1)])
        book = [("column", (1, 2))]
        for numbers in ((2, -1), [-2, 1], [4, -2], ((1, 3), (-1, 6)), [(1, 2), (-1, 4)]):
            self.gives(None, hidden_fault, mould, book, 0, Hidden(numbers))
            self.gives(None, hidden_fault, hidden=Hidden(numbers), letter=1, book=book, mould=mould)

    def test_answer_and_letter_of_hidden_fillings(self):
        mould = Mould(1, 3, [(0, 0), (0, 1), (0, 2)])
        book = [("column", (1, 1, 0))]
        self.gives("answer", hidden_fault, mould, book, 0, Hidden((1, 1, 0)))
        self.gives("answer", hidden_fault, mould, book, 2, Hidden(((1, 3), (-1, 2), 1)))
        self.gives("letter", hidden_fault, mould, book, 2, Hidden((1, -1, 0)))
        self.gives("letter", hidden_fault, mould, book, 2, Hidden(((1, 2), (-1, 2), (0, 1))))
        self.gives("letter", hidden_fault, mould, book, 0, Hidden([0, 0, 0]))

    def test_two_words_at_once(self):
        self.gives("many", hidden_fault, TRIANGLE, ONE_GROUP, 0, Hidden((0, 1)))
        self.gives("many", hidden_fault, TRIANGLE, ONE_GROUP, 0, Hidden((0, True, 1)))
        self.gives("answer", hidden_fault, TRIANGLE, ONE_GROUP, 0, Hidden((0, 1, 1)))
        self.gives("many", weights_fault, TRIANGLE, ONE_GROUP, 0, Weights((1, 1, 1, 1)))


class ToldLettersTest(Case):
    """Point 2.5: told_letters, tells_all and hidden_all."""

    def test_told_letters(self):
        for mould, book in CASES:
            rows = span_rows(mould, book)
            told = tuple(letter for letter in range(mould.letters_many) if is_told(mould, rows, letter))
            self.gives(told, told_letters, mould, book)
            self.gives(len(told) == mould.letters_many, tells_all, mould, book)
            basis = hidden_basis(rows, mould.letters_many)
            self.gives(basis, hidden_all, mould, book)
            self.assertEqual(len(basis), mould.letters_many - rank_by_fractions(rows))
            for letter in range(mould.letters_many):
                self.assertIs(all(row[letter] == 0 for row in basis), letter in told)
            for numbers in basis:
                self.assertEqual(book_answers(mould, book, numbers), ((0, 1),) * len(rows))

    def test_a_mould_without_places(self):
        for book in ([], [("column", (1, 2, 3))], [("row", [0, 0])]):
            mould = Mould(2, 3, [])
            self.gives((), told_letters, mould, book)
            self.gives(True, tells_all, mould, book)
            self.gives((), hidden_all, mould, book)

    def test_the_empty_book(self):
        self.gives((), told_letters, TRIANGLE, [])
        self.gives(False, tells_all, TRIANGLE, ())
        self.gives(((1, 0, 0), (0, 1, 0), (0, 0, 1)), hidden_all, TRIANGLE, [])

    def test_asks_that_are_added_never_hide_a_told_letter(self):
        for mould, book in CASES:
            for many in range(len(book)):
                self.assertLessEqual(set(told_letters(mould, book[:many])), set(told_letters(mould, book)))

    def test_a_place_is_told_by_a_column_of_its_own(self):
        mould = Mould(2, 2, [(0, 0), (0, 1), (1, 1)])
        self.gives((0,), told_letters, mould, [("column", (1, 0))])
        self.gives((1, 2), told_letters, mould, [["column", [0, 3]]])
        self.gives((2,), told_letters, mould, [("column", (1, 1))])

    def test_wrong_books(self):
        for call in (told_letters, tells_all, hidden_all):
            self.refuses_in_order(call, (TRIANGLE, ONE_GROUP), [(1, wrong_books(TRIANGLE))])


class ResultTest(Case):
    """Points 0.5 and 0.8."""

    def test_a_result_keeps_what_it_is_given(self):
        for thing in ([1], (1, 2), None):
            self.assertIs(Hidden(thing).numbers, thing)
            self.assertEqual(vars(Hidden(numbers=thing)), {"numbers": thing})

    def test_later_changes_have_no_effect(self):
        book = [["column", [1, 1, 1]]]
        found = told_by(TRIANGLE, book, 0), hidden_all(TRIANGLE, book)
        before = repr([vars(found[0]), found[1]])
        book[0][1][0] = 0
        book.append(["row", [1, 2, 3]])
        self.assertEqual(repr([vars(found[0]), found[1]]), before)
