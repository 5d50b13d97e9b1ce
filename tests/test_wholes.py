import itertools
import random
from math import gcd

from tests.helper import (
    NO_NUMBERS, Case, all_moulds, all_webs, as_fraction, is_told, not_sequences, not_wholes, random_book, random_mould,
    random_web, unit, wrong_books, wrong_letters,
)
from thinslopes.asks import book_answers, power_asks, span_rows
from thinslopes.groupings import all_groupings, book_of
from thinslopes.moulds import Mould
from thinslopes.ratios import is_ratio
from thinslopes.told import Hidden, hidden_fault, told_letters
from thinslopes.webs import Web
from thinslopes.wholes import Whole, letter_bottoms, times_for_bottom, whole_fault, whole_told

TRIANGLE = Web(3, [(0, 1), (0, 2), (1, 2)]).as_mould()
ONE_GROUP = book_of((0, 0, 0))
FULL = Mould(6, 6, list(itertools.product(range(6), repeat=2)))


def some_cases():
    chance = random.Random(41)
    cases = [(mould, random_book(chance, mould, 4, 6)) for mould in all_moulds(2, 2) for _ in range(4)]
    for _ in range(120):
        mould = random_mould(chance, chance.randint(1, 4), chance.randint(1, 4))
        cases.append((mould, random_book(chance, mould, 6, 9)))
    return cases


CASES = some_cases()


class WholeToldTest(Case):
    """Points 2.8 and 2.9: whole_told and letter_bottoms."""

    def right(self, mould, rows, letter, whole):
        """Both witnesses: the weights show that the bottom suffices, the filling that no lesser one does."""
        many = mould.letters_many
        self.assertIs(type(whole), Whole)
        self.assertGreater(whole.bottom, 0)
        self.assertEqual([type(weight) for weight in whole.weights], [int] * len(rows))
        made = [sum(weight * row[at] for weight, row in zip(whole.weights, rows)) for at in range(many)]
        self.assertEqual(made, [whole.bottom * number for number in unit(many, letter)])
        self.assertEqual(len(whole.numbers), many)
        self.assertTrue(all(is_ratio(number) for number in whole.numbers))
        for row in rows:
            answer = sum(as_fraction(number) * times for number, times in zip(whole.numbers, row))
            self.assertEqual(answer, int(answer))
        self.assertEqual(whole.numbers[letter][1], whole.bottom)

    def judged(self, mould, book):
        """The bottoms of all letters, each with its witnesses checked."""
        rows = span_rows(mould, book)
        bottoms = []
        for letter in range(mould.letters_many):
            found = self.taken(whole_told, mould, book, letter)
            if is_told(mould, rows, letter):
                self.right(mould, rows, letter, found)
                self.gives(None, whole_fault, mould, book, letter, found)
                bottoms.append(found.bottom)
            else:
                self.assertIs(type(found), Hidden)
                self.gives(None, hidden_fault, mould, book, letter, found)
                bottoms.append(0)
        self.gives(tuple(bottoms), letter_bottoms, mould, book)
        return bottoms

    def test_letters_of_all_bottoms(self):
        seen = set()
        for mould, book in CASES:
            seen.update(self.judged(mould, book))
        self.assertGreater(len(seen), 20)
        self.assertLessEqual({0, 1, 2, 3, 4, 5, 6}, seen)

    def test_bottoms_of_single_letters(self):
        mould = Mould(1, 1, [(0, 0)])
        for numbers, bottom in (((6,), 6), ((6, 4), 2), ((6, 10, 15), 1), ((0,), 0), ((-7, 0, 14), 7), ((), 0)):
            book = [("column", (number,)) for number in numbers]
            self.assertEqual(self.judged(mould, book), [bottom])

    def test_the_bottom_of_a_web_is_0_1_or_2(self):
        chance = random.Random(42)
        seen = set()
        for web in [*all_webs(3), *[random_web(chance, 5, 0.4) for _ in range(4)]]:
            for grouping in list(all_groupings(web.points))[::3]:
                seen.update(self.judged(web.as_mould(), book_of(grouping)))
        self.assertEqual(seen, {0, 1, 2})

    def test_the_halves_of_a_triangle(self):
        for tie, weights in enumerate(((1, 1, -1), (1, -1, 1), (-1, 1, 1))):
            whole = self.taken(whole_told, TRIANGLE, ONE_GROUP, tie)
            self.same((whole.bottom, whole.weights), (2, weights))
            self.assertEqual([number[1] for number in whole.numbers], [2, 2, 2])

    def test_no_letters_and_no_asks(self):
        self.gives((), letter_bottoms, Mould(2, 2, []), [("column", (1, 2))])
        self.gives((), letter_bottoms, Mould(2, 2, []), [])
        self.gives((0, 0, 0), letter_bottoms, TRIANGLE, ())
        self.assertEqual(self.judged(TRIANGLE, [("column", (0, 0, 0))]), [0, 0, 0])

    def test_great_numbers(self):
        great = 10 ** 9
        mould = Mould(1, 2, [(0, 0), (0, 1)])
        book = [("column", (great, great - 1)), ("column", (great - 1, -great))]
        self.assertEqual(self.judged(mould, book), [great ** 2 + (great - 1) ** 2] * 2)
        chance = random.Random(43)
        for kinds in (("column",) * 8, ("column",) * 6 + ("row",) * 2):
            book = [(kind, [chance.randint(-great, great) for _ in range(6)]) for kind in kinds]
            rows = span_rows(FULL, book)
            for letter in (0, 35):
                self.right(FULL, rows, letter, whole_told(FULL, book, letter))

    def test_the_book_of_powers(self):
        book = power_asks("column", 6, 6) + power_asks("row", 6, 2)
        rows = span_rows(FULL, book)
        bottoms = letter_bottoms(FULL, book)
        self.assertEqual(bottoms, letter_bottoms(mould=FULL, book=list(book)))
        for letter in range(0, 36, 5):
            whole = whole_told(FULL, book, letter)
            self.right(FULL, rows, letter, whole)
            self.assertEqual(whole.bottom, bottoms[letter])

    def test_a_letter_with_the_bottom_1_is_whole_for_whole_answers(self):
        for mould, book in CASES[:80]:
            told = told_letters(mould, book)
            for letter, bottom in enumerate(letter_bottoms(mould, book)):
                self.assertEqual(bottom > 0, letter in told)
                if bottom > 1:
                    filling = whole_told(mould, book, letter).numbers
                    self.assertTrue(all(answer[1] == 1 for answer in book_answers(mould, book, filling)))

    def test_times_that_share_no_divisor_with_the_bottom(self):
        """What the filling of a Whole rests on: the numbers, so many times each, fit the bottom."""
        chance = random.Random(44)
        for _ in range(300):
            bottom = chance.choice((1, 2, 6, 12, 30, 60, 210, 2310))
            numbers = [chance.randint(-60, 60) for _ in range(chance.randint(1, 5))]
            if gcd(bottom, *numbers) == 1:
                made = sum(time * number for time, number in zip(times_for_bottom(numbers, bottom), numbers))
                self.assertEqual(gcd(made, bottom), 1)

    def test_wrong_arguments(self):
        wrong = [(1, wrong_books(TRIANGLE)), (2, wrong_letters(TRIANGLE))]
        self.refuses_in_order(whole_told, (TRIANGLE, ONE_GROUP, 0), wrong)
        self.refuses_in_order(whole_fault, (TRIANGLE, ONE_GROUP, 0, Whole(None, None, None)), wrong)
        self.refuses_in_order(letter_bottoms, (TRIANGLE, ONE_GROUP), wrong[:1])


class WholeFaultTest(Case):
    """Point 2.9: whole_fault."""

    HALVES = ((1, 2), (1, 2), (1, 2))

    def judged(self, word, bottom, weights, numbers, letter=0):
        self.gives(word, whole_fault, TRIANGLE, ONE_GROUP, letter, Whole(bottom, weights, numbers))

    def test_right_ones(self):
        self.judged(None, 2, (1, 1, -1), self.HALVES)
        self.judged(None, 2, [1, 1, -1], [(-3, 2), (5, 2), (7, 2)])
        self.judged(None, 2, (1, -1, 1), self.HALVES, 1)

    def test_bottom(self):
        for thing in [*not_wholes(), 0, -2]:
            self.judged("bottom", thing, (1, 1, -1), self.HALVES)

    def test_weights(self):
        for thing in [*not_sequences(), [], (1, 1), (1, 1, -1, 0), (1, 1, 1), (2, 2, -2), (0, 0, 0)]:
            self.judged("weights", 2, thing, self.HALVES)
        for thing in [*not_wholes(), (-1, 1)]:
            self.judged("weights", 2, [1, 1, thing], self.HALVES)
        self.judged("weights", 2, (1, 1, -1), self.HALVES, 1)
        self.judged("weights", 1, ((1, 2), (1, 2), (-1, 2)), self.HALVES)

    def test_numbers(self):
        for thing in [*not_sequences(), [], self.HALVES[:2], (*self.HALVES, 0), ((1, 2), 0, 0), ((1, 3), (2, 3), 0)]:
            self.judged("numbers", 2, (1, 1, -1), thing)
        for thing in NO_NUMBERS:
            self.judged("numbers", 2, (1, 1, -1), [(1, 2), (1, 2), thing])

    def test_letter(self):
        self.judged("letter", 2, (1, 1, -1), (1, 2, 3))
        self.judged("letter", 4, (2, 2, -2), self.HALVES)
        self.judged("letter", 6, (3, 3, -3), self.HALVES)

    def test_two_words_at_once(self):
        self.judged("bottom", 0, None, None)
        self.judged("bottom", True, (1, 1, -1), ())
        self.judged("weights", 2, (1, 1, True), (0,))
        self.judged("numbers", 4, (2, 2, -2), ((1, 2), (1, 2), 0))

    def test_a_letter_that_is_not_told_has_no_right_whole(self):
        mould = Mould(1, 2, [(0, 0), (0, 1)])
        self.gives("weights", whole_fault, mould, [("column", (1, 1))], 0, Whole(1, [1], [0, 0]))
        self.gives("weights", whole_fault, mould, [], 0, Whole(1, [], [0, 0]))

    def test_a_result_keeps_what_it_is_given(self):
        one, two, three = [1], (2,), None
        self.assertEqual(vars(Whole(numbers=three, weights=two, bottom=one)), {
            "bottom": one, "weights": two, "numbers": three,
        })
        self.assertIs(Whole(one, two, three).bottom, one)
