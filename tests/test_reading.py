import itertools
import random

from tests.helper import (
    Case, all_moulds, all_webs, not_sequences, not_wholes, random_book, random_mould, wrong_books, wrong_groupings,
)
from thinslopes.asks import span_rows
from thinslopes.errors import BadLetter, NoAnswer
from thinslopes.groupings import all_groupings, book_of
from thinslopes.moulds import Mould
from thinslopes.reading import check_letters, left_letters, read_letters, side_read
from thinslopes.webs import Web

MOULD = Mould(2, 3, [(0, 0), (0, 2), (1, 1), (1, 2)], [0, 1, 0, 2])
# The answers have the letters 0 1, 0 2, then 0, 0, 1 2.
BOOK = [("column", (1, 1, 1)), ["row", [1, 1]]]
LETTERS = [(thing, BadLetter(thing)) for thing in not_sequences()]
LETTERS += [([0, thing, 9], BadLetter(thing)) for thing in [*not_wholes(), -1, 3, [0]]]
ANSWERS = [(thing, NoAnswer(thing)) for thing in [*not_wholes(), -1, 5, [0]]]


def some_cases():
    chance = random.Random(91)
    cases = [(mould, random_book(chance, mould, 4, 2)) for mould in all_moulds(2, 2) for _ in range(2)]
    for _ in range(60):
        mould = random_mould(chance, chance.randint(1, 5), chance.randint(1, 5))
        cases.append((mould, random_book(chance, mould, 4, 1)))
    return cases


CASES = some_cases()


class CheckLettersTest(Case):
    """Point 5.2."""

    def test_lots_of_letters(self):
        for letters, lot in (([], ()), ((), ()), ([2, 0, 2, 2, 0], (0, 2)), ((1,), (1,)), ((2, 1, 0), (0, 1, 2))):
            self.gives(lot, check_letters, MOULD, letters)
        self.gives((0,), check_letters, letters=[0, 0], mould=MOULD)
        self.gives((), check_letters, Mould(1, 1, []), [])

    def test_wrong_letters(self):
        self.refuses_in_order(check_letters, (MOULD, []), [(1, LETTERS)])
        self.refuses(BadLetter(7), check_letters, MOULD, (7, True, -1))
        self.refuses(BadLetter(0), check_letters, Mould(1, 1, []), [0])


class LeftLettersTest(Case):
    """Points 5.1 and 5.2."""

    def test_left_letters(self):
        expected = ((0, 1), (0, 2), (0,), (0,), (1, 2))
        for answer, letters in enumerate(expected):
            self.gives(letters, left_letters, MOULD, BOOK, answer)
            for known in ((), [0], (2, 1, 2), [0, 1, 2]):
                left = tuple(letter for letter in letters if letter not in known)
                self.gives(left, left_letters, MOULD, BOOK, answer, known)
        self.gives((2,), left_letters, known=[0], answer=1, book=BOOK, mould=MOULD)

    def test_against_the_span_rows(self):
        for mould, book in CASES:
            for answer, row in enumerate(span_rows(mould, book)):
                for known in ([], list(range(0, mould.letters_many, 2)), list(range(mould.letters_many))):
                    left = tuple(at for at, number in enumerate(row) if number != 0 and at not in known)
                    self.gives(left, left_letters, mould, book, answer, known)

    def test_numbers_that_add_up_to_0_count_as_0(self):
        mould = Mould(1, 3, [(0, 0), (0, 1), (0, 2)], [0, 0, 1])
        self.gives((1,), left_letters, mould, [("column", (2, -2, 1))], 0)
        self.gives(((1, 0),), read_letters, mould, [("column", (2, -2, 1))])

    def test_errors(self):
        wrong = [(1, wrong_books(MOULD)), (2, ANSWERS), (3, LETTERS)]
        self.refuses_in_order(left_letters, (MOULD, BOOK, 0, ()), wrong)
        self.refuses(NoAnswer(0), left_letters, MOULD, [], 0)


class ReadLettersTest(Case):
    """Point 5.3."""

    def test_the_first_answer_that_has_the_letter_alone(self):
        self.gives(((0, 2),), read_letters, MOULD, BOOK)
        self.gives(((0, 2), (2, 7)), read_letters, mould=MOULD, book=[*BOOK, ("row", (0, 5)), ("row", (0, 7))])
        for mould, book in CASES:
            rows = span_rows(mould, book)
            expected = []
            for letter in range(mould.letters_many):
                alone = [answer for answer, row in enumerate(rows)
                         if row[letter] != 0 and sum(number != 0 for number in row) == 1]
                expected += [(letter, alone[0])] if alone else []
            self.gives(tuple(expected), read_letters, mould, book)

    def test_edges(self):
        self.gives((), read_letters, MOULD, [])
        self.gives((), read_letters, Mould(2, 2, []), [("column", (1, 1))])
        self.gives((), read_letters, MOULD, [("column", (0, 0, 0)), ("row", (0, 0))])

    def test_side_read(self):
        answers = set()
        for web in all_webs(3):
            for grouping in all_groupings(3):
                read = read_letters(web.as_mould(), book_of(grouping))
                self.gives(len(read) == len(web), side_read, web, list(grouping))
                answers.add(len(read) == len(web))
        self.assertEqual(answers, {True, False})
        everything = Web(6, list(itertools.combinations_with_replacement(range(6), 2)))
        self.gives(True, side_read, everything, (0, 1, 2, 3, 4, 5))
        self.gives(False, side_read, grouping=[0] * 6, web=everything)
        self.gives(True, side_read, Web(6, []), [0] * 6)

    def test_errors(self):
        self.refuses_in_order(read_letters, (MOULD, BOOK), [(1, wrong_books(MOULD))])
        self.refuses_in_order(side_read, (Web(3, [(0, 1)]), (0, 0, 0)), [(1, wrong_groupings(3))])
