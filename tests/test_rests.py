import itertools
import random
from math import gcd

from tests.helper import (
    Case, all_moulds, all_webs, not_sequences, not_wholes, random_book, random_mould, wrong_books, wrong_letters,
)
from thinslopes.asks import power_asks, span_rows
from thinslopes.errors import BadModulus
from thinslopes.groupings import all_groupings, book_of
from thinslopes.moulds import Mould
from thinslopes.rests import (
    RestHidden, RestWeights, rest_hidden_fault, rest_weights_fault, told_by_rests, told_moduli,
)
from thinslopes.spans import Weights
from thinslopes.told import Hidden, told_by
from thinslopes.webs import Web
from thinslopes.wholes import letter_bottoms, whole_told

TRIANGLE = Web(3, [(0, 1), (0, 2), (1, 2)]).as_mould()
ONE_GROUP = book_of((0, 0, 0))
MODULI = range(2, 13)


def hidden_by_rests(rows, many, modulus):
    """For each letter whether some filling by rests gives it another rest than 0 and all answers the rest 0."""
    found = [False] * many
    for numbers in itertools.product(range(modulus), repeat=many):
        if all(sum(a * b for a, b in zip(row, numbers)) % modulus == 0 for row in rows):
            found = [one or number != 0 for one, number in zip(found, numbers)]
    return found


class ToldByRestsTest(Case):
    """Points 2.10 and 2.11: told_by_rests and told_moduli."""

    def found(self, mould, rows, letter, modulus, book):
        """Whether the letter is told, with the witness multiplied out."""
        result = self.taken(told_by_rests, mould, book, letter, modulus)
        many = mould.letters_many
        if type(result) is RestWeights:
            self.assertEqual([type(number) for number in result.row], [int] * len(rows))
            self.assertTrue(all(0 <= number < modulus for number in result.row))
            made = [sum(weight * row[at] for weight, row in zip(result.row, rows)) for at in range(many)]
            for at, number in enumerate(made):
                self.assertEqual((number - (at == letter)) % modulus, 0)
            self.gives(None, rest_weights_fault, mould, book, letter, modulus, result)
            return True
        self.assertIs(type(result), RestHidden)
        self.assertEqual([type(number) for number in result.numbers], [int] * many)
        self.assertTrue(all(0 <= number < modulus for number in result.numbers))
        for row in rows:
            self.assertEqual(sum(a * b for a, b in zip(row, result.numbers)) % modulus, 0)
        self.assertNotEqual(result.numbers[letter], 0)
        self.gives(None, rest_hidden_fault, mould, book, letter, modulus, result)
        return False

    def moduli(self, mould, book, letter):
        rows = span_rows(mould, book)
        told = tuple(modulus for modulus in MODULI if self.found(mould, rows, letter, modulus, book))
        self.gives(told, told_moduli, mould, book, letter)
        return told

    def test_each_modulus_against_all_fillings(self):
        chance = random.Random(51)
        counts = {True: 0, False: 0}
        for mould in all_moulds(2, 2):
            many = mould.letters_many
            book = random_book(chance, mould, 4, 8)
            rows = span_rows(mould, book)
            for modulus in MODULI if many < 4 else (2, 3, 4, 6):
                hidden = hidden_by_rests(rows, many, modulus)
                for letter in range(many):
                    self.assertIs(self.found(mould, rows, letter, modulus, book), not hidden[letter])
                    counts[hidden[letter]] += 1
        self.assertGreater(min(counts.values()), 50)

    def test_larger_moulds(self):
        chance = random.Random(52)
        for _ in range(40):
            mould = random_mould(chance, chance.randint(1, 5), chance.randint(1, 5))
            book = random_book(chance, mould, 8, 9)
            bottoms = letter_bottoms(mould, book)
            for letter in range(min(mould.letters_many, 3)):
                told = self.moduli(mould, book, letter)
                for one in MODULI:
                    if bottoms[letter] and gcd(bottoms[letter], one) == 1:
                        self.assertIn(one, told)
                    for two in MODULI:
                        if one * two <= 12 and gcd(one, two) == 1:
                            self.assertEqual(one * two in told, one in told and two in told)
                        if one in told and one % two == 0:
                            self.assertIn(two, told)

    def test_letters_that_are_not_told_but_told_by_rests(self):
        mould = Mould(1, 2, [(0, 0), (0, 1)])
        self.assertIs(type(told_by(mould, [("column", (1, 6))], 0)), Hidden)
        self.assertEqual(self.moduli(mould, [("column", (1, 6))], 0), (2, 3, 6))
        self.assertEqual(self.moduli(mould, [("column", (1, 6))], 1), ())
        self.assertEqual(self.moduli(mould, [("column", (5, 12))], 0), (2, 3, 4, 6, 12))
        self.assertEqual(self.moduli(mould, [("column", (2, 6))], 0), (3,))

    def test_told_letters_with_a_bottom(self):
        mould = Mould(1, 1, [(0, 0)])
        self.assertIs(type(told_by(mould, [("column", (6,))], 0)), Weights)
        self.assertEqual(self.moduli(mould, [("column", (6,))], 0), (5, 7, 11))
        self.assertEqual(self.moduli(mould, [("column", (6,)), ("row", (10,))], 0), (3, 5, 7, 9, 11))
        self.assertEqual(self.moduli(mould, [("row", (0,))], 0), ())
        self.assertEqual(self.moduli(mould, [], 0), ())
        self.assertEqual(self.moduli(mould, [("row", (-1,))], 0), tuple(MODULI))

    def test_the_ties_of_webs(self):
        """The rules of point 2.10 for a web and the book of a grouping."""
        for web in all_webs(3):
            for grouping in all_groupings(3):
                mould, book = web.as_mould(), book_of(grouping)
                bottoms = letter_bottoms(mould, book)
                for tie in range(len(web)):
                    told = self.moduli(mould, book, tie)
                    for modulus in MODULI:
                        if modulus % 2:
                            self.assertEqual(modulus in told, bottoms[tie] > 0)
                        if modulus % 4 == 0:
                            self.assertEqual(modulus in told, bottoms[tie] == 1)
                    self.assertEqual(2 in told, not self.joined_otherwise(web, grouping, tie))

    def joined_otherwise(self, web, grouping, number):
        """Whether other ties of its groups join the points of the tie, diagonals as ties to a further point."""
        def groups_of(tie):
            return sorted(grouping[point] for point in tie)

        def ends(tie):
            return (tie[0], web.points) if tie[0] == tie[1] else tie

        tie = web.ties[number]
        others = [ends(other) for at, other in enumerate(web.ties)
                  if at != number and groups_of(other) == groups_of(tie)]
        reached = {tie[0]}
        for _ in range(web.points + 1):
            reached.update(point for other in others if set(other) & reached for point in other)
        return ends(tie)[1] in reached

    def test_the_example_of_point_2_12(self):
        rows = span_rows(TRIANGLE, ONE_GROUP)
        self.same(rows, ((1, 1, 0), (1, 0, 1), (0, 1, 1)))
        self.gives(Weights(((1, 2), (1, 2), (-1, 2))), told_by, TRIANGLE, ONE_GROUP, 0)
        whole = whole_told(TRIANGLE, ONE_GROUP, 0)
        self.same((whole.bottom, whole.weights), (2, (1, 1, -1)))
        self.assertEqual([number[1] for number in whole.numbers], [2, 2, 2])
        for tie in range(3):
            self.gives(RestHidden((1, 1, 1)), told_by_rests, TRIANGLE, ONE_GROUP, tie, 2)
            self.gives((3, 5, 7, 9, 11), told_moduli, TRIANGLE, ONE_GROUP, tie)

    def test_eight_asks_on_a_full_table(self):
        full = Mould(6, 6, list(itertools.product(range(6), repeat=2)))
        for columns in (4, 6):
            book = power_asks("column", 6, columns) + power_asks("row", 6, 8 - columns)
            rows = span_rows(full, book)
            for letter in (0, 14, 35):
                told = self.moduli(full, book, letter)
                self.assertEqual(told, tuple(m for m in MODULI if self.found(full, rows, letter, m, book)))

    def test_wrong_arguments(self):
        moduli = [(thing, BadModulus(thing)) for thing in [*not_wholes(), 1, 0, -2, 13]]
        wrong = [(1, wrong_books(TRIANGLE)), (2, wrong_letters(TRIANGLE)), (3, moduli)]
        self.refuses_in_order(told_by_rests, (TRIANGLE, ONE_GROUP, 0, 2), wrong)
        self.refuses_in_order(rest_weights_fault, (TRIANGLE, ONE_GROUP, 0, 2, RestWeights(None)), wrong)
        self.refuses_in_order(rest_hidden_fault, (TRIANGLE, ONE_GROUP, 0, 2, RestHidden(None)), wrong)
        self.refuses_in_order(told_moduli, (TRIANGLE, ONE_GROUP, 0), wrong[:2])


class JudgeTest(Case):
    """Point 2.11: rest_weights_fault and rest_hidden_fault."""

    def weights(self, word, row, modulus=3, letter=0):
        self.gives(word, rest_weights_fault, TRIANGLE, ONE_GROUP, letter, modulus, RestWeights(row))

    def hidden(self, word, numbers, modulus=2, letter=0):
        self.gives(word, rest_hidden_fault, TRIANGLE, ONE_GROUP, letter, modulus, RestHidden(numbers))

    def test_any_whole_numbers_are_taken(self):
        for row in ((2, 2, 1), [-1, -1, 1], (5, -1, 10 ** 30 * 3 + 1)):
            self.weights(None, row)
        for numbers in ((1, 1, 1), [-1, 3, 5], (10 ** 30 + 1, 1, -7)):
            self.hidden(None, numbers)
            self.hidden(None, numbers, letter=2)

    def test_many(self):
        for thing in [*not_sequences(), [], (1, 1), (1, 1, 1, 1)]:
            self.weights("many", thing)
            self.hidden("many", thing)
        for thing in [*not_wholes(), (1, 2)]:
            self.weights("many", (2, 2, thing))
            self.hidden("many", [1, 1, thing])

    def test_other_words(self):
        self.weights("letter", (2, 2, 0))
        self.weights("letter", (2, 2, 1), letter=1)
        self.weights("letter", (2, 2, 1), modulus=5)
        self.hidden("answer", (1, 0, 1))
        self.hidden("answer", (1, 1, 1), modulus=4)
        self.hidden("letter", (2, 0, -4))
        self.hidden("letter", (2, 2, 2), modulus=2)

    def test_two_words_at_once(self):
        self.weights("many", (True, 0, 0))
        self.hidden("many", (0, 1, True))
        self.hidden("answer", (0, 1, 0))

    def test_results_keep_what_they_are_given(self):
        thing = [1]
        self.assertIs(RestWeights(thing).row, thing)
        self.assertIs(RestHidden(numbers=thing).numbers, thing)
