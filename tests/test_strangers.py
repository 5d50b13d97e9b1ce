import itertools
import random

from tests.helper import (
    NO_NUMBERS, Case, as_fraction, lots, not_sequences, random_book, random_free, random_mould, rank_by_fractions,
    wrong_answers, wrong_books,
)
from tests.test_lost import WRONG_MOST
from thinslopes.asks import book_answers, power_asks, span_rows
from thinslopes.errors import BadNumbers, BadStranger, TooMany
from thinslopes.moulds import Mould
from thinslopes.strangers import (
    Explained, Filled, Twice, Unseen, answers_with, explained_by, found_strangers, off_cells, seen_strangers,
)
from thinslopes.told import told_letters

SMALL = Mould(2, 3, [(0, 0), (0, 1), (1, 0), (1, 2)], [0, 1, 2, 0])
COLUMN = ("column", (1, 0, 2))
DIAGONAL = Mould(2, 2, [(0, 0), (1, 1)])
FULL = Mould(2, 2, list(itertools.product(range(2), repeat=2)))
# A table of 4 by 4 with 12 and with 13 off cells.
TWELVE_OFF = Mould(4, 4, [(at, at) for at in range(4)])
THIRTEEN_OFF = Mould(4, 4, [(at, at) for at in range(3)])


def some_books():
    """Couples of a mould and a book of it, with at most 6 off cells."""
    chance = random.Random(241)
    found = [(DIAGONAL, (("column", (1, 1)),)), (FULL, ()), (SMALL, ())]
    while len(found) < 45:
        mould = random_mould(chance, chance.randint(1, 3), chance.randint(1, 3), places=chance.choice((0.4, 0.7, 0.9)))
        if mould.height * mould.width - len(mould) <= 6:
            found.append((mould, random_book(chance, mould, 5, 2)))
    return found


BOOKS = some_books()


def off_of(mould):
    return [cell for cell in itertools.product(range(mould.height), range(mould.width)) if cell not in mould.cells]


def joined(mould, cells):
    """The mould with these off cells, and the number of each of its letters: ("cell", its cell) or a letter."""
    places = sorted([*mould.cells, *cells])
    names = [("cell", cell) if cell in cells else mould.letter_at(*cell) for cell in places]
    firsts = sorted(set(names), key=names.index)
    return Mould(mould.height, mould.width, places, [firsts.index(name) for name in names]), firsts


def answers_of(mould, book, numbers, strangers):
    """The answers of the table with strangers, by a mould that has their cells."""
    standing = {tuple(cell): number for cell, number in strangers}
    more, names = joined(mould, sorted(standing))
    return book_answers(more, book, [standing[name[1]] if isinstance(name, tuple) else numbers[name] for name in names])


def rows_with(mould, book, cells):
    """The span rows of the letters, and behind them those of the cells."""
    more, names = joined(mould, cells)
    order = [names.index(letter) for letter in range(mould.letters_many)] + [names.index(("cell", at)) for at in cells]
    return [[row[at] for at in order] for row in span_rows(more, book)]


def hides(mould, book, cells):
    """Whether strangers at all of these cells or some, not all 0, have answers of a filling without strangers."""
    rows = rows_with(mould, book, cells)
    return rank_by_fractions(rows) < rank_by_fractions([row[:mould.letters_many] for row in rows]) + len(cells)


class OffCellsTest(Case):
    """Point 8.6."""

    def test_off_cells(self):
        for mould, _ in BOOKS:
            self.gives(tuple(off_of(mould)), off_cells, mould)
        self.gives((), off_cells, FULL)
        self.gives(((0, 2), (1, 1)), off_cells, mould=SMALL)
        self.gives(((0, 0), (0, 1)), off_cells, Mould(1, 2, []))

    def test_answers_with_strangers(self):
        chance = random.Random(242)
        for mould, book in BOOKS:
            numbers = [chance.choice((0, 1, (1, 2), -3)) for _ in range(mould.letters_many)]
            strangers = [(chance.choice((list, tuple))(cell), chance.choice((0, 2, (-1, 3))))
                         for cell in off_of(mould) if chance.random() < 0.6]
            right = answers_of(mould, book, numbers, strangers)
            self.gives(right, answers_with, mould, book, numbers, strangers)
            self.gives(right, answers_with, mould, book, tuple(numbers), tuple(list(pair) for pair in strangers))
            self.gives(book_answers(mould, book, numbers), answers_with, mould, book, numbers, ())

    def test_examples(self):
        self.gives(((3, 1), (5, 1)), answers_with, DIAGONAL, [("column", (1, 1))], (1, 2), [((0, 1), 2), ((1, 0), 3)])
        self.gives(((1, 1), (2, 1)), answers_with, strangers=[[[0, 1], 0]], numbers=[1, 2],
                   book=[("column", (1, 1))], mould=DIAGONAL)
        self.gives((), answers_with, FULL, (), (0,) * 4, [])

    def test_errors(self):
        numbers = [(thing, BadNumbers(0)) for thing in [*not_sequences(), (), []]]
        numbers += [((0, thing, 0), BadNumbers(1)) for thing in NO_NUMBERS]
        strangers = [(thing, BadStranger(0)) for thing in not_sequences()]
        strangers += [([thing], BadStranger(0)) for thing in [*not_sequences(), (), ((0, 2),), ((0, 2), 1, 1)]]
        for cell in [None, "02", (0, 0), (0, 3), (2, 0), (-1, 1), (0,), (False, 2), (0, 2, 0), (0, "2")]:
            strangers += [([(cell, 1)], BadStranger(0)), ([((0, 2), 1), [cell, 1]], BadStranger(1))]
        strangers += [([[(0, 2), 0], ((1, 1), bad)], BadStranger(1)) for bad in [*NO_NUMBERS, None]]
        strangers += [([((1, 1), 1), ((0, 2), 1)], BadStranger(1)), ((((0, 2), 0), ((0, 2), 1)), BadStranger(1))]
        strangers += [([((1, 1), 1), ((0, 2), 1), None], BadStranger(1))]
        wrong = [(1, wrong_books(SMALL)), (2, numbers), (3, strangers)]
        self.refuses_in_order(answers_with, (SMALL, [COLUMN], (0, 0, 0), []), wrong)

    def test_each_cell_is_above_the_one_before(self):
        empty = Mould(2, 2, [])
        for cells, index in (((0, 2, 1), 2), ((0, 1, 1), 2), ((1, 3, 2), 2), ((0, 2, 3, 0), 3)):
            strangers = [((at // 2, at % 2), 1) for at in cells]
            self.refuses(BadStranger(index), answers_with, empty, (), (), strangers)

    def test_it_has_no_bound(self):
        self.gives(((1, 1),) * 4, answers_with, THIRTEEN_OFF, [("row", (1, 1, 1, 1))], (1, 1, 1), [((3, 3), 1)])


class SeenStrangersTest(Case):
    """Point 8.7."""

    def check_unseen(self, mould, book, most, unseen):
        self.assertIsInstance(unseen, Unseen)
        self.assertEqual([type(number) for number in unseen.numbers], [int] * mould.letters_many)
        cells = [cell for cell, number in unseen.strangers]
        self.assertEqual(cells, sorted(set(cells)))
        self.assertLessEqual(set(cells), set(off_of(mould)))
        self.assertIn(len(cells), range(1, most + 1))
        self.assertTrue(all(type(number) is int and number != 0 for cell, number in unseen.strangers))
        self.assertLessEqual(set(answers_of(mould, book, unseen.numbers, unseen.strangers)), {(0, 1)})

    def test_against_all_lots_of_cells(self):
        kinds = set()
        for mould, book in BOOKS:
            for most in range(5):
                right = any(hides(mould, book, lot) for lot in lots(off_of(mould)) if 0 < len(lot) <= most)
                unseen = self.taken(seen_strangers, mould, book, most)
                self.assertIs(unseen is not None, right)
                kinds.add((most, right))
                if right:
                    self.check_unseen(mould, book, most, unseen)
        self.assertEqual(kinds - {(0, True)}, set(itertools.product(range(5), (True, False))) - {(0, True)})

    def test_edges(self):
        for most in range(5):
            self.gives(None, seen_strangers, FULL, [], most)
        self.gives(None, seen_strangers, Mould(2, 2, []), [], 0)
        self.gives(Unseen((), (((0, 0), 1),)), seen_strangers, Mould(2, 2, []), [], 1)
        # `most` above the number of off cells.
        self.gives(None, seen_strangers, Mould(1, 1, []), [("row", (1,))], 4)
        self.gives(Unseen((), (((0, 0), 1),)), seen_strangers, most=4, book=[("row", (0,))], mould=Mould(1, 1, []))

    def test_errors(self):
        wrong = [(1, wrong_books(SMALL)), (2, WRONG_MOST[4])]
        self.refuses_in_order(seen_strangers, (SMALL, [COLUMN], 1), wrong)

    def test_twelve_and_thirteen_off_cells(self):
        book = power_asks("column", 4, 6)
        for most in range(5):
            self.gives(None, seen_strangers, TWELVE_OFF, book, most)
        wrong = [(2, WRONG_MOST[4]), (0, [(THIRTEEN_OFF, TooMany(12)), (Mould(6, 6, []), TooMany(12))])]
        self.refuses_in_order(seen_strangers, (THIRTEEN_OFF, [], 0), wrong)


class FoundStrangersTest(Case):
    """Point 8.8."""

    def check_twice(self, mould, book, most, twice):
        self.assertIsInstance(twice, Twice)
        for filled in (twice.first, twice.second):
            self.assertIsInstance(filled, Filled)
            self.assertEqual([type(number) for number in filled.numbers], [int] * mould.letters_many)
            cells = [cell for cell, number in filled.strangers]
            self.assertEqual(cells, sorted(set(cells)))
            self.assertLessEqual(set(cells), set(off_of(mould)))
            self.assertLessEqual(len(cells), most)
            self.assertTrue(all(type(number) is int and number != 0 for cell, number in filled.strangers))
        self.assertNotEqual(twice.first.strangers, twice.second.strangers)
        one = answers_of(mould, book, twice.first.numbers, twice.first.strangers)
        self.same(answers_of(mould, book, twice.second.numbers, twice.second.strangers), one)

    def test_they_are_found_if_twice_as_many_are_seen(self):
        kinds = set()
        for mould, book in BOOKS:
            for most in range(3):
                twice = self.taken(found_strangers, mould, book, most)
                self.assertIs(twice is None, seen_strangers(mould, book, 2 * most) is None)
                kinds.add((most, twice is None))
                if twice is not None:
                    self.check_twice(mould, book, most, twice)
        self.assertEqual(kinds, {(0, True), (1, True), (1, False), (2, True), (2, False)})

    def test_edges(self):
        for most in range(3):
            self.gives(None, found_strangers, FULL, [], most)
        self.gives(None, found_strangers, Mould(2, 2, []), [], 0)
        self.gives(None, found_strangers, most=2, book=[("row", (1,))], mould=Mould(1, 1, []))
        twice = found_strangers(Mould(1, 1, []), [], 1)
        self.check_twice(Mould(1, 1, []), [], 1, twice)

    def test_just_twice_as_many_have_to_be_seen(self):
        for most in (1, 2):
            empty, book = Mould(1, 6, []), power_asks("column", 6, 2 * most)
            self.gives(None, seen_strangers, empty, book, 2 * most)
            self.gives(None, found_strangers, empty, book, most)
            self.check_twice(empty, book[1:], most, found_strangers(empty, book[1:], most))

    def test_errors(self):
        wrong = [(1, wrong_books(SMALL)), (2, WRONG_MOST[2])]
        self.refuses_in_order(found_strangers, (SMALL, [COLUMN], 1), wrong)
        self.refuses_in_order(found_strangers, (THIRTEEN_OFF, [], 0), [
            (2, WRONG_MOST[2]), (0, [(THIRTEEN_OFF, TooMany(12))])])

    def test_twelve_off_cells(self):
        self.gives(None, found_strangers, TWELVE_OFF, power_asks("column", 4, 5), 2)
        self.check_twice(TWELVE_OFF, power_asks("column", 4, 2), 1, found_strangers(
            TWELVE_OFF, power_asks("column", 4, 2), 1))


def explains(mould, book, answers, cells):
    rows = rows_with(mould, book, cells)
    wider = [[*row, as_fraction(answer)] for row, answer in zip(rows, answers)]
    return rank_by_fractions(wider) == rank_by_fractions(rows)


def least_lots(mould, book, answers, most):
    found = []
    for lot in lots(off_of(mould)):
        if len(lot) <= most and explains(mould, book, answers, lot):
            if not any(set(other) <= set(lot) for other in found):
                found.append(lot)
    return found


class ExplainedByTest(Case):
    """Point 8.9."""

    def check_explained(self, mould, book, answers, explained):
        self.assertIsInstance(explained, Explained)
        told = told_letters(mould, book)
        self.assertEqual([at for at, number in enumerate(explained.numbers) if number is not None], list(told))
        self.assertTrue(all(isinstance(number, tuple) and number[0] != 0 for _, number in explained.strangers))
        # What is left when the strangers are taken off are the answers of a filling with these told numbers.
        rows = span_rows(mould, book)
        off = answers_of(mould, book, (0,) * mould.letters_many, explained.strangers)
        left = [as_fraction(one) - as_fraction(other) for one, other in zip(answers, off)]
        rank = rank_by_fractions(rows)
        wider = [[*row, number] for row, number in zip(rows, left)]
        for letter in told:
            unit = [int(at == letter) for at in range(mould.letters_many)]
            wider.append([*unit, as_fraction(explained.numbers[letter])])
        self.assertEqual(rank_by_fractions(wider), rank)

    def test_fillings_with_strangers(self):
        chance = random.Random(251)
        counts = set()
        for mould, book in BOOKS:
            for many in range(4):
                cells = sorted(chance.sample(off_of(mould), min(many, len(off_of(mould)))))
                strangers = [(cell, chance.choice((-2, 1, (1, 2)))) for cell in cells]
                numbers = [chance.randint(-3, 3) for _ in range(mould.letters_many)]
                answers = answers_of(mould, book, numbers, strangers)
                for most in range(3):
                    found = self.taken(explained_by, mould, book, list(answers), most)
                    right = least_lots(mould, book, answers, most)
                    counts.add(len(right))
                    self.assertIs(type(found), tuple)
                    self.same([tuple(cell for cell, _ in one.strangers) for one in found], right)
                    for explained in found:
                        self.check_explained(mould, book, answers, explained)
                    if len(cells) <= most and found_strangers(mould, book, most) is None:
                        ratios = tuple((cell, (number, 1) if isinstance(number, int) else number)
                                       for cell, number in strangers)
                        self.same([explained.strangers for explained in found], [ratios])
        self.assertGreaterEqual(counts, {0, 1, 2})

    def test_any_answers(self):
        chance = random.Random(252)
        for mould, book in BOOKS:
            answers = [chance.choice((0, 1, (1, 2), -2)) for _ in span_rows(mould, book)]
            found = explained_by(mould, book, answers, 2)
            self.same([tuple(cell for cell, _ in one.strangers) for one in found], least_lots(mould, book, answers, 2))
            for explained in found:
                self.check_explained(mould, book, answers, explained)

    def test_edges(self):
        self.gives((Explained((), ((1, 1), (2, 1))),), explained_by, DIAGONAL, [("row", (1, 1))], [1, 2], 2)
        self.gives((Explained((), (None,) * 4),), explained_by, FULL, [], (), 0)
        self.gives((), explained_by, Mould(2, 2, []), [("row", (1, 1))], [0, 1], 0)
        self.gives((Explained((((0, 1), (1, 1)),), ()), Explained((((1, 1), (1, 2)),), ())), explained_by, most=1,
                   answers=[0, 1], book=[("row", (1, 2))], mould=Mould(2, 2, []))
        self.gives((), explained_by, FULL, [("row", (0, 0))], [0, 1], 2)
        # A stranger with the number 0 is none.
        answers = answers_with(DIAGONAL, power_asks("column", 2, 2), (3, 4), [((0, 1), 0), ((1, 0), 5)])
        self.gives((Explained((((1, 0), (5, 1)),), ((3, 1), (4, 1))),), explained_by,
                   DIAGONAL, power_asks("column", 2, 2), answers, 2)

    def test_later_changes_have_no_effect(self):
        answers = [1, 2]
        found = explained_by(DIAGONAL, [("row", (1, 1))], answers, 1)
        answers[0] = 5
        self.same(found[0].numbers, ((1, 1), (2, 1)))

    def test_errors(self):
        wrong = [(1, wrong_books(SMALL)), (2, wrong_answers(2)), (3, WRONG_MOST[2])]
        self.refuses_in_order(explained_by, (SMALL, [COLUMN], (0, 0), 1), wrong)
        row = [("row", (1, 1, 1, 1))]
        wrong = [(2, wrong_answers(4)), (3, WRONG_MOST[2]), (0, [(THIRTEEN_OFF, TooMany(12))])]
        self.refuses_in_order(explained_by, (THIRTEEN_OFF, row, (0,) * 4, 0), wrong)

    def test_twelve_off_cells(self):
        chance = random.Random(253)
        cells = list(itertools.product(range(6), repeat=2))
        chance.shuffle(cells)
        mould = Mould(6, 6, sorted(cells[12:]))
        book = [("column", tuple(chance.randint(-10 ** 9, 10 ** 9) for _ in range(6))) for _ in range(6)]
        book += [("row", tuple(chance.randint(-10 ** 9, 10 ** 9) for _ in range(6))) for _ in range(2)]
        strangers = [(cell, 7) for cell in sorted(cells[:2])]
        answers = answers_with(mould, book, list(range(24)), strangers)
        found = explained_by(mould, book, answers, 2)
        self.same([one.strangers for one in found], [tuple((cell, (7, 1)) for cell, _ in strangers)])
        self.same(found[0].numbers, tuple((at, 1) for at in range(24)))


class PowersTest(Case):
    """Point 8.11: strangers."""

    def test_books_of_powers(self):
        chance = random.Random(261)
        kinds = set()
        for _ in range(40):
            mould = random_free(chance, chance.randint(1, 3), chance.randint(1, 4), 0.5)
            many = chance.randint(1, 5)
            book = power_asks("column", mould.width, many)
            for most in range(1, 5):
                right = True
                for line in range(mould.height):
                    places = len([cell for cell in mould.cells if cell[0] == line])
                    off = mould.width - places
                    right = right and (off == 0 or places + min(most, off) <= many)
                self.assertIs(seen_strangers(mould, book, most) is None, right)
                kinds.add((most, right))
        self.assertEqual(len(kinds), 8)

    def test_the_example(self):
        book = [("column", (1, 1))]
        self.same(answers_with(DIAGONAL, book, (-1, 0), [((0, 1), 1)]), ((0, 1), (0, 1)))
        unseen = seen_strangers(DIAGONAL, book, 1)
        self.assertEqual(len(unseen.strangers), 1)
        self.assertIsNotNone(found_strangers(DIAGONAL, book, 1))
        book.append(("column", (1, 2)))
        self.gives(None, seen_strangers, DIAGONAL, book, 2)
        self.gives(None, found_strangers, DIAGONAL, book, 1)
        answers = answers_with(DIAGONAL, book, (3, 4), [((0, 1), 5)])
        self.same(explained_by(DIAGONAL, book, answers, 1), (Explained((((0, 1), (5, 1)),), ((3, 1), (4, 1))),))
