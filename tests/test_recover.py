import itertools
import random
from fractions import Fraction

from tests.helper import (
    NO_NUMBERS, Case, all_moulds, as_fraction, as_ratios, is_told, not_sequences, random_book, random_mould,
    rank_by_fractions, unit, weighted, wrong_answers, wrong_books,
)
from thinslopes.asks import book_answers, power_asks, span_rows
from thinslopes.moulds import Mould
from thinslopes.ratios import is_ratio
from thinslopes.recover import (
    Clash, Given, Parted, Recovered, alike_books, check_answers, clash_fault, gives_book, recovered_from,
)
from thinslopes.told import hidden_all, told_letters

MOULD = Mould(2, 2, [(0, 0), (0, 1), (1, 1)])
# The answers are 00 + 01, 11, then 00, 01 + 11.
BOOK = [("column", (1, 1)), ["row", [1, 1]]]
FULL = Mould(6, 6, list(itertools.product(range(6), repeat=2)))


def some_cases():
    chance = random.Random(26)
    small = [mould for mould in all_moulds(2, 2)]
    cases = [(mould, random_book(chance, mould, 4)) for mould in small for _ in range(3)]
    for _ in range(80):
        mould = random_mould(chance, chance.randint(1, 4), chance.randint(1, 4))
        cases.append((mould, random_book(chance, mould, 5)))
    return cases


CASES = some_cases()


class CheckAnswersTest(Case):
    """Point 2.6: check_answers."""

    def test_answers_are_returned_as_ratios(self):
        for answers in ([1, (1, 2), -3, (0, 1)], (1, (1, 2), (-3, 1), 0)):
            self.gives(((1, 1), (1, 2), (-3, 1), (0, 1)), check_answers, MOULD, BOOK, answers)
        self.gives((), check_answers, MOULD, [], [])
        self.gives(((5, 1),) * 2, check_answers, answers=[5, 5], book=[("row", (0, 0))], mould=MOULD)

    def test_wrong_arguments(self):
        wrong = [(1, wrong_books(MOULD)), (2, wrong_answers(4))]
        for call in (check_answers, recovered_from, lambda *args: clash_fault(*args, Clash(None))):
            self.refuses_in_order(call, (MOULD, BOOK, [0] * 4), wrong)
        self.refuses_in_order(check_answers, (MOULD, [], []), [(2, [(None, wrong[1][1][0][1])])])

    def test_later_changes_have_no_effect(self):
        answers = [1, (1, 2), 3, 4]
        found = check_answers(MOULD, BOOK, answers)
        answers[0] = None
        self.same(found, ((1, 1), (1, 2), (3, 1), (4, 1)))


class RecoveredTest(Case):
    """Point 2.6: recovered_from."""

    def right(self, mould, book, answers, found):
        """The filling fits, and the numbers are those of the told letters in it."""
        self.assertIs(type(found), Recovered)
        self.assertEqual(len(found.filling), mould.letters_many)
        self.assertTrue(all(is_ratio(number) for number in found.filling))
        self.assertEqual(book_answers(mould, book, found.filling), tuple(answers))
        told = told_letters(mould, book)
        expected = [number if letter in told else None for letter, number in enumerate(found.filling)]
        self.same(found.numbers, tuple(expected))

    def test_answers_of_fillings(self):
        chance = random.Random(27)
        for mould, book in CASES:
            for bottoms in ((1,), (1, 2, 3, 10 ** 9 + 7)):
                numbers = as_ratios(
                    Fraction(chance.randint(-9, 9), chance.choice(bottoms)) for _ in range(mould.letters_many)
                )
                answers = book_answers(mould, book, numbers)
                found = self.taken(recovered_from, mould, book, list(answers))
                self.right(mould, book, answers, found)
                for letter in told_letters(mould, book):
                    self.same(found.numbers[letter], numbers[letter])

    def test_exactly_one_of_the_two_exists(self):
        chance = random.Random(28)
        kinds = {Recovered: 0, Clash: 0}
        for mould, book in CASES:
            rows = span_rows(mould, book)
            for _ in range(3):
                answers = as_ratios(Fraction(chance.randint(-2, 2), chance.choice((1, 1, 2))) for _ in rows)
                found = self.taken(recovered_from, mould, book, answers)
                joined = [[*row, as_fraction(answer)] for row, answer in zip(rows, answers)]
                fits = rank_by_fractions(joined) == rank_by_fractions(rows)
                kinds[type(found)] += 1
                if fits:
                    self.right(mould, book, answers, found)
                else:
                    self.assertIs(type(found), Clash)
                    self.assertTrue(all(is_ratio(weight) for weight in found.weights))
                    self.gives(None, clash_fault, mould, book, answers, found)
                    many = mould.letters_many
                    self.assertEqual(weighted(rows, found.weights, many), [0] * many)
                    pairs = zip(found.weights, answers)
                    self.assertNotEqual(sum(as_fraction(one) * as_fraction(two) for one, two in pairs), 0)
        self.assertGreater(min(kinds.values()), 50)

    def test_all_fillings_that_fit(self):
        book = [("column", (1, 1)), ("row", (0, 1))]
        found = recovered_from(MOULD, book, [3, 1, 0, 1])
        self.same(found.numbers, (None, None, (1, 1)))
        basis = hidden_all(MOULD, book)
        for times in range(-3, 4):
            filling = [(a[0] + times * b, 1) for a, b in zip(found.filling, basis[0])]
            self.assertEqual(book_answers(MOULD, book, filling), ((3, 1), (1, 1), (0, 1), (1, 1)))
        self.gives(None, clash_fault, MOULD, book, [3, 1, 0, 2], recovered_from(MOULD, book, [3, 1, 0, 2]))

    def test_the_empty_book(self):
        found = self.taken(recovered_from, MOULD, [], [])
        self.same(found.numbers, (None,) * 3)
        self.assertEqual(len(found.filling), 3)

    def test_a_mould_without_places_and_asks_that_are_all_0(self):
        empty = Mould(2, 1, [])
        self.gives(Recovered((), ()), recovered_from, empty, [("column", [5])], [0, (0, 1)])
        found = self.taken(recovered_from, empty, [("column", [5])], [0, (1, 3)])
        self.gives(None, clash_fault, empty, [("column", [5])], [0, (1, 3)], found)
        zeros = [("column", [0, 0]), ("row", [0, 0])]
        self.same(recovered_from(MOULD, zeros, [0] * 4).numbers, (None,) * 3)
        self.gives(None, clash_fault, MOULD, zeros, [0, 1, 0, 0], recovered_from(MOULD, zeros, [0, 1, 0, 0]))

    def test_eight_asks_and_great_numbers(self):
        chance = random.Random(29)
        book = power_asks("column", 6, 4) + tuple(
            (kind, tuple(chance.randint(-10 ** 9, 10 ** 9) for _ in range(6)))
            for kind in ("row", "row", "column", "row")
        )
        numbers = [(chance.randint(-99, 99) * 2 + 1, 2 ** (at + 1)) for at in range(36)]
        answers = book_answers(FULL, book, numbers)
        self.right(FULL, book, answers, recovered_from(FULL, book, answers))
        wrong = [*answers[:-1], (answers[-1][0] + answers[-1][1], answers[-1][1])]
        self.gives(None, clash_fault, FULL, book, wrong, recovered_from(FULL, book, wrong))


class ClashFaultTest(Case):
    """Point 2.6: clash_fault."""

    def judged(self, word, answers, weights):
        self.gives(word, clash_fault, MOULD, BOOK, answers, Clash(weights))

    def test_right_clashes(self):
        # 00 + 01 and 11 together are the sum of 00 and 01 + 11.
        for weights in ((1, 1, -1, -1), [(1, 2), (1, 2), (-1, 2), (-1, 2)], [-3, (-3, 1), 3, 3]):
            self.judged(None, [1, 0, 0, 0], weights)
            self.gives(None, clash_fault, clash=Clash(weights), answers=((1, 2), 2, 0, 0), book=BOOK, mould=MOULD)

    def test_many(self):
        for thing in [*not_sequences(), [], (1, 1, -1), [1, 1, -1, -1, 0]]:
            self.judged("many", [1, 0, 0, 0], thing)
        for thing in NO_NUMBERS:
            self.judged("many", [1, 0, 0, 0], [1, 1, -1, thing])

    def test_letters_and_answers(self):
        self.judged("letters", [1, 0, 0, 0], (1, 1, -1, 1))
        self.judged("letters", [1, 0, 0, 0], [(1, 2), 0, 0, 0])
        self.judged("answers", [1, 1, 2, 0], (1, 1, -1, -1))
        self.judged("answers", [(1, 2), (1, 3), (5, 6), 0], (1, 1, -1, -1))
        self.judged("answers", [1, 0, 0, 0], (0, 0, 0, 0))

    def test_two_words_at_once(self):
        self.judged("many", [1, 1, 2, 0], (1, 1, True, 1))
        self.judged("letters", [0, 0, 0, 0], (1, 0, 0, 0))

    def test_every_small_clash(self):
        for weights in itertools.product((-1, 0, 1), repeat=4):
            for answers in ((1, 0, 0, 0), (1, 0, 1, 0), (2, 1, 1, 1)):
                alike = weights in ((0, 0, 0, 0), (1, 1, -1, -1), (-1, -1, 1, 1))
                total = sum(a * b for a, b in zip(weights, answers))
                self.judged("letters" if not alike else "answers" if total == 0 else None, answers, weights)


class GivesBookTest(Case):
    """Point 2.7: gives_book and alike_books."""

    def right(self, mould, book, other, found):
        rows, asked = span_rows(mould, book), span_rows(mould, other)
        many = mould.letters_many
        follows = [rank_by_fractions([*rows, row]) == rank_by_fractions(rows) for row in asked]
        if all(follows):
            self.assertIs(type(found), Given)
            self.assertEqual([len(weights) for weights in found.rows], [len(rows)] * len(asked))
            for weights, row in zip(found.rows, asked):
                self.assertTrue(all(is_ratio(weight) for weight in weights))
                self.assertEqual(weighted(rows, weights, many), list(row))
            return True
        self.assertIs(type(found), Parted)
        self.assertEqual(found.answer, follows.index(False))
        self.assertEqual([type(number) for number in found.numbers], [int] * many)
        self.assertEqual(set(book_answers(mould, book, found.numbers)) - {(0, 1)}, set())
        self.assertNotEqual(book_answers(mould, other, found.numbers)[found.answer], (0, 1))
        return False

    def test_books_that_give_others_and_that_do_not(self):
        chance = random.Random(31)
        counts = {True: 0, False: 0}
        for mould, book in CASES:
            halved = [(kind, tuple(2 * number for number in asked)) for kind, asked in book[:-1]]
            for other in (random_book(chance, mould, 2), halved, random_book(chance, mould, 2, 1, ("column",))):
                gives = self.right(mould, book, other, self.taken(gives_book, mould, book, other))
                counts[gives] += 1
                if gives:
                    self.assertLessEqual(set(told_letters(mould, other)), set(told_letters(mould, book)))
        self.assertGreater(min(counts.values()), 50)

    def test_a_book_gives_its_own_parts_and_the_empty_book(self):
        self.gives(Given(()), gives_book, MOULD, BOOK, [])
        self.gives(Given(()), gives_book, MOULD, [], ())
        found = gives_book(other=BOOK[:1], book=BOOK, mould=MOULD)
        self.assertTrue(self.right(MOULD, BOOK, BOOK[:1], found))

    def test_the_first_answer_that_does_not_follow(self):
        found = self.taken(gives_book, MOULD, [("row", (1, 0))], [("row", (1, 0)), ("row", (0, 1)), ("column", (1, 1))])
        self.assertEqual(found.answer, 3)
        self.assertEqual((found.numbers[0], found.numbers[1]), (0, 0))
        self.assertNotEqual(found.numbers[2], 0)

    def test_alike_books(self):
        chance = random.Random(32)
        counts = {True: 0, False: 0}
        for mould, book in CASES:
            shuffled = [(kind, [-number for number in asked]) for kind, asked in book]
            chance.shuffle(shuffled)
            self.gives(True, alike_books, mould, book, shuffled)
            other = random_book(chance, mould, 3)
            pair = [type(gives_book(mould, *books)) for books in ((book, other), (other, book))]
            self.gives(pair == [Given, Given], alike_books, mould, book, other)
            counts[pair == [Given, Given]] += 1
        self.assertGreater(min(counts.values()), 10)
        self.gives(True, alike_books, MOULD, [], [("column", (0, 0))])
        self.gives(True, alike_books, mould=Mould(1, 2, []), one=[], other=[("column", (5, 5))])
        self.gives(False, alike_books, MOULD, BOOK, [])

    def test_the_first_book_is_told_ahead_of_the_second(self):
        wrong = [(1, wrong_books(MOULD)), (2, wrong_books(MOULD))]
        for call in (gives_book, alike_books):
            self.refuses_in_order(call, (MOULD, BOOK, BOOK), wrong)


class ResultTest(Case):
    """Point 0.8."""

    def test_results_keep_what_they_are_given(self):
        one, two = [1], (2,)
        self.assertEqual(vars(Recovered(one, two)), {"numbers": one, "filling": two})
        self.assertIs(Recovered(filling=two, numbers=one).numbers, one)
        self.assertIs(Clash(one).weights, one)
        self.assertIs(Given(rows=one).rows, one)
        self.assertEqual(vars(Parted(None, one)), {"answer": None, "numbers": one})

    def test_told_letters_are_those_with_a_number(self):
        for mould, book in CASES[:60]:
            rows = span_rows(mould, book)
            found = recovered_from(mould, book, [0] * len(rows))
            for letter, number in enumerate(found.numbers):
                self.assertEqual(number, (0, 1) if is_told(mould, rows, letter) else None)
                self.assertEqual(len(unit(mould.letters_many, letter)), len(found.numbers))
