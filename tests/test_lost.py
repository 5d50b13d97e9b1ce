import itertools
import random

from tests.helper import (
    NO_NUMBERS, Case, as_fraction, is_told, lots, not_sequences, not_wholes, random_book, random_free,
    random_mould, random_web, rank_by_fractions, wrong_answers, wrong_books, wrong_letters,
)
from thinslopes.asks import answers_many, book_answers, power_asks, span_rows
from thinslopes.errors import BadMost, TooMany
from thinslopes.groupings import all_groupings, book_of
from thinslopes.lost import Lost, Mended, Worse, least_loss, lost_fault, lost_told, mended_answers, wrong_told
from thinslopes.moulds import Mould
from thinslopes.pieces import has_odd_ring, pieces_between, tie_groups
from thinslopes.sidegroups import side_told
from thinslopes.told import told_letters
from thinslopes.webs import Web

SMALL = Mould(2, 3, [(0, 0), (0, 1), (1, 0), (1, 2)], [0, 1, 2, 0])
COLUMN = ("column", (1, 0, 2))
LONG = Mould(1, 6, [(0, at) for at in range(6)])
THIRTEEN = [("row", [1]), ("row", [1]), ("column", [1] * 6)]
TOO_MANY = (1, [(THIRTEEN, TooMany(12))])
WRONG_MOST = {most: [(thing, BadMost(thing)) for thing in [*not_wholes(), -1, most + 1]] for most in (2, 4)}


def some_books():
    """Couples of a mould with letters and a book of it with at most 8 answers."""
    chance = random.Random(211)
    found = []
    while len(found) < 45:
        mould = random_mould(chance, chance.randint(1, 3), chance.randint(1, 3))
        book = random_book(chance, mould, 4, 2)
        if mould.letters_many > 0 and answers_many(mould, book) <= 8:
            found.append((mould, book))
    return found


BOOKS = some_books()


def without(things, lot):
    return [thing for index, thing in enumerate(things) if index not in lot]


def losses(mould, book, letter):
    """All lots of answers without which the letter is not told, fewest answers first, then ascending."""
    rows = span_rows(mould, book)
    return [lot for lot in lots(range(len(rows))) if not is_told(mould, without(rows, lot), letter)]


class LostToldTest(Case):
    """Points 8.1 and 8.2."""

    def check_lost(self, mould, book, letter, lost):
        self.assertIsInstance(lost, Lost)
        self.assertIsNone(lost_fault(mould, book, letter, lost))
        self.assertEqual([type(number) for number in lost.numbers], [int] * mould.letters_many)
        self.assertNotEqual(lost.numbers[letter], 0)
        others = {answer for answer, ratio in enumerate(book_answers(mould, book, lost.numbers)) if ratio[0] != 0}
        self.assertEqual(others, set(lost.answers))

    def test_the_first_lot_against_all_lots(self):
        kinds = set()
        for mould, book in BOOKS:
            for letter in range(mould.letters_many):
                right = losses(mould, book, letter)[0]
                self.gives(right, least_loss, mould, book, letter)
                for most in range(5):
                    lost = self.taken(lost_told, mould, book, letter, most)
                    kinds.add((lost is None, min(len(right), 5), most))
                    self.assertIs(lost is None, len(right) > most)
                    if lost is not None:
                        self.same(lost.answers, right)
                        self.check_lost(mould, book, letter, lost)
        self.assertGreater(len(kinds), 20)

    def test_wrong_answers_are_lost_twice(self):
        """Point 8.4."""
        for mould, book in BOOKS:
            for letter in range(mould.letters_many):
                for most in range(3):
                    right = lost_told(mould, book, letter, 2 * most)
                    self.gives(right, wrong_told, mould, book, letter, most)

    def test_letters_that_stay_told(self):
        """Point 8.1: a letter is told exactly if no filling of so few answers has another number there than 0."""
        chance = random.Random(212)
        for mould, book in BOOKS:
            for letter in range(mould.letters_many):
                least = len(least_loss(mould, book, letter))
                for _ in range(5):
                    numbers = [chance.randint(-2, 2) for _ in range(mould.letters_many)]
                    if numbers[letter] != 0:
                        others = [ratio for ratio in book_answers(mould, book, numbers) if ratio[0] != 0]
                        self.assertGreaterEqual(len(others), least)

    def test_edges(self):
        self.same(lost_told(SMALL, [], 1, 0), Lost((), (0, 1, 0)))
        self.gives((), least_loss, SMALL, [], 0)
        self.gives((), least_loss, SMALL, [COLUMN], 1)
        self.gives((0,), least_loss, SMALL, [COLUMN], 0)
        self.gives((0,), least_loss, letter=2, book=[COLUMN], mould=SMALL)
        self.gives(None, lost_told, SMALL, [COLUMN], 0, 0)
        self.gives(None, wrong_told, most=0, letter=0, book=[COLUMN], mould=SMALL)
        one = Mould(1, 1, [(0, 0)])
        self.gives(Lost((0, 1), (1,)), lost_told, one, [("row", [1]), ("column", [-3])], 0, 4)
        self.gives(None, lost_told, one, [("row", [1]), ("column", [-3])], 0, 1)
        self.gives((0, 1), least_loss, one, [("row", [1]), ("column", [-3])], 0)
        # `most` may be greater than the number of answers.
        self.gives(Lost((), (1,)), lost_told, one, [], 0, 4)

    def test_asks_that_are_added_and_books_joined_to_themselves(self):
        """Point 8.3."""
        chance = random.Random(213)
        for mould, book in BOOKS:
            for letter in range(mould.letters_many):
                least = len(least_loss(mould, book, letter))
                more = book + random_book(chance, mould, 1)
                if answers_many(mould, more) <= 12 and len(more) <= 8:
                    self.assertGreaterEqual(len(least_loss(mould, more, letter)), least)
                if answers_many(mould, book) <= 6 and len(book) <= 4:
                    self.assertEqual(len(least_loss(mould, book + book, letter)), 2 * least)

    def test_errors(self):
        wrong = [(1, wrong_books(SMALL)), (2, wrong_letters(SMALL))]
        self.refuses_in_order(least_loss, (SMALL, [COLUMN], 0), wrong)
        self.refuses_in_order(lost_told, (SMALL, [COLUMN], 0, 1), [*wrong, (3, WRONG_MOST[4])])
        self.refuses_in_order(wrong_told, (SMALL, [COLUMN], 0, 1), [*wrong, (3, WRONG_MOST[2])])

    def test_twelve_and_thirteen_answers(self):
        twelve = [("row", [2]), ("row", [1])]
        self.gives((0, 6), least_loss, LONG, twelve, 0)
        self.gives(None, lost_told, LONG, twelve, 0, 1)
        self.gives(Lost((1, 7), (0, 1, 0, 0, 0, 0)), wrong_told, LONG, twelve, 1, 1)
        letter = (2, wrong_letters(LONG))
        self.refuses_in_order(least_loss, (LONG, THIRTEEN, 0), [letter, TOO_MANY])
        self.refuses_in_order(lost_told, (LONG, THIRTEEN, 0, 0), [letter, (3, WRONG_MOST[4]), TOO_MANY])
        self.refuses_in_order(wrong_told, (LONG, THIRTEEN, 0, 0), [letter, (3, WRONG_MOST[2]), TOO_MANY])
        # The judge has no such bound.
        self.gives(None, lost_fault, LONG, THIRTEEN, 0, Lost((0, 6, 12), (1, 0, 0, 0, 0, 0)))

    def test_twelve_answers_of_one_letter(self):
        one = Mould(2, 2, [(0, 0), (0, 1), (1, 0), (1, 1)], [0, 0, 0, 0])
        chance = random.Random(214)
        book = [("column", (chance.randint(1, 10 ** 9), chance.randint(1, 10 ** 9))) for _ in range(6)]
        self.gives(tuple(range(12)), least_loss, one, book, 0)
        self.gives(None, lost_told, one, book, 0, 4)
        book[2] = ("column", (-1, 1))
        self.gives((0, 1, 2, 3, 6, 7, 8, 9, 10, 11), least_loss, one, book, 0)


class LostFaultTest(Case):
    """Point 8.2: lost_fault."""

    # 00 + 2 * 10 = answer 0, 01 = 1, 00 = 2, 11 = 3.
    mould = Mould(2, 2, [(0, 0), (0, 1), (1, 0), (1, 1)])
    book = [("row", [1, 2]), ("column", [1, 0]), ("column", [0, 1])]

    def judged(self, word, answers, numbers, letter=0):
        self.gives(word, lost_fault, self.mould, self.book, letter, Lost(answers, numbers))

    def test_right_ones(self):
        self.judged(None, (0, 2), (1, 0, 0, 0))
        self.judged(None, [2, 3], [-2, 0, (1, 1), 0])
        # Least or not.
        self.judged(None, (0, 1, 2, 3, 4, 5), (1, 2, 3, 4))
        self.judged(None, (0, 2, 5), ((1, 3), 0, 0, 0))

    def test_answers(self):
        for thing in [*not_sequences(), (2, 0), [0, 0], (0, 6), (-1, 2), *[(0, bad) for bad in not_wholes()], (True,)]:
            self.judged("answers", thing, (1, 0, 0, 0))

    def test_many(self):
        for thing in [*not_sequences(), (), (1, 0, 0), (1, 0, 0, 0, 0), *[(1, 0, bad, 0) for bad in NO_NUMBERS]]:
            self.judged("many", (0, 2), thing)

    def test_outside(self):
        self.judged("outside", (0,), (1, 0, 0, 0))
        self.judged("outside", (), (1, 0, 0, 0))
        self.judged("outside", [2, 3], (1, 0, 0, 0))

    def test_letter(self):
        self.judged("letter", (0, 2), (0, 0, 0, 0))
        self.judged("letter", (0, 3), (0, 0, 1, 0))
        self.judged(None, (0, 3), (0, 0, 1, 0), 2)

    def test_two_words_at_once(self):
        self.judged("answers", (1, 0), None)
        self.judged("many", (0,), (1, 0, 0))
        self.judged("outside", (0,), (0, 0, 1, 0))

    def test_errors(self):
        wrong = [(1, wrong_books(SMALL)), (2, wrong_letters(SMALL))]
        self.refuses_in_order(lost_fault, (SMALL, [COLUMN], 0, Lost(None, None)), wrong)


def fits(mould, book, answers, lot):
    rows = without(span_rows(mould, book), lot)
    given = [as_fraction(answer) for answer in without(answers, lot)]
    return rank_by_fractions([[*row, answer] for row, answer in zip(rows, given)]) == rank_by_fractions(rows)


def least_fits(mould, book, answers, most):
    found = []
    for lot in lots(range(len(answers))):
        if len(lot) <= most and fits(mould, book, answers, lot):
            if not any(set(other) <= set(lot) for other in found):
                found.append(lot)
    return found


class MendedAnswersTest(Case):
    """Point 8.5."""

    def check_mended(self, mould, book, answers, mended):
        self.assertIsInstance(mended, Mended)
        rows = span_rows(mould, book)
        told = told_letters(mould, book)
        self.assertEqual([letter for letter, number in enumerate(mended.numbers) if number is not None], list(told))
        unlike = tuple(answer for answer, (one, other) in enumerate(zip(answers, mended.answers))
                       if as_fraction(one) != as_fraction(other))
        self.assertEqual(unlike, mended.wrong)
        # The answers put right are those of a filling, and the told letters have their numbers in it.
        rank = rank_by_fractions(rows)
        right = [as_fraction(answer) for answer in mended.answers]
        self.assertEqual(rank_by_fractions([[*row, answer] for row, answer in zip(rows, right)]), rank)
        for letter in told:
            more = [*[[*row, answer] for row, answer in zip(rows, right)],
                    [*[int(at == letter) for at in range(mould.letters_many)], as_fraction(mended.numbers[letter])]]
            self.assertEqual(rank_by_fractions(more), rank)

    def test_the_answers_of_fillings_with_some_changed(self):
        chance = random.Random(221)
        counts = set()
        for mould, book in BOOKS:
            many = answers_many(mould, book)
            for changed_many in range(4):
                numbers = [chance.randint(-3, 3) for _ in range(mould.letters_many)]
                answers = list(book_answers(mould, book, numbers))
                changed = chance.sample(range(many), min(changed_many, many))
                for answer in changed:
                    answers[answer] = (answers[answer][0] + chance.choice((-2, -1, 1, 3)), 1)
                for most in range(3):
                    found = self.taken(mended_answers, mould, book, answers, most)
                    right = least_fits(mould, book, answers, most)
                    counts.add(len(right))
                    if not right:
                        self.same(found, Worse(most))
                        continue
                    self.assertIs(type(found), tuple)
                    self.same([mended.wrong for mended in found], right)
                    for mended in found:
                        self.check_mended(mould, book, answers, mended)
                    if len(changed) <= most:
                        self.check_changed(mould, book, numbers, changed, found, most)
        self.assertGreaterEqual(counts, {0, 1, 2, 3})

    def check_changed(self, mould, book, numbers, changed, found, most):
        self.assertTrue(any(set(mended.wrong) <= set(changed) for mended in found))
        for letter in range(mould.letters_many):
            if wrong_told(mould, book, letter, most) is None:
                for mended in found:
                    self.same(mended.numbers[letter], (numbers[letter], 1))

    def test_answers_of_a_filling(self):
        for mould, book in BOOKS[:15]:
            answers = book_answers(mould, book, list(range(mould.letters_many)))
            found = mended_answers(mould, book, list(answers), 2)
            self.same([(mended.wrong, mended.answers) for mended in found], [((), answers)])

    def test_examples(self):
        one = Mould(1, 1, [(0, 0)])
        book = [("row", [1]), ("row", [2]), ("row", [4])]
        self.gives((Mended((1,), ((3, 1), (6, 1), (12, 1)), ((3, 1),)),), mended_answers, one, book, [3, 5, 12], 1)
        self.gives(Worse(0), mended_answers, one, book, (3, 5, 12), 0)
        self.gives((Mended((1,), ((3, 1), (6, 1), (12, 1)), ((3, 1),)),
                    Mended((0, 2), ((5, 2), (5, 1), (10, 1)), ((5, 2),))), mended_answers, one, book, [3, 5, 12], 2)
        self.gives(Worse(1), mended_answers, most=1, answers=[0, 1, 3], book=book, mould=one)
        # Each couple of wrong answers leaves one right.
        found = mended_answers(one, book, [0, 1, 3], 2)
        self.assertEqual([mended.wrong for mended in found], [(0, 1), (0, 2), (1, 2)])
        self.gives((Mended((), ((1, 1), (2, 1)), ((1, 1), None, (0, 1))),), mended_answers, SMALL, [COLUMN], (1, 2), 0)
        self.gives((Mended((), (), (None, None, None)),), mended_answers, SMALL, [], [], 2)

    def test_later_changes_have_no_effect(self):
        answers = [3, 6, 12]
        found = mended_answers(Mould(1, 1, [(0, 0)]), [("row", [1]), ("row", [2]), ("row", [4])], answers, 0)
        answers[0] = 9
        self.same(found[0].answers, ((3, 1), (6, 1), (12, 1)))

    def test_errors(self):
        wrong = [(1, wrong_books(SMALL)), (2, wrong_answers(2)), (3, WRONG_MOST[2])]
        self.refuses_in_order(mended_answers, (SMALL, [COLUMN], (0, 0), 1), wrong)

    def test_twelve_and_thirteen_answers(self):
        twelve = [("row", [2]), ("row", [1])]
        answers = [2, 4, 6, 8, 10, 12, 1, 2, 3, 4, 5, 7]
        found = mended_answers(LONG, twelve, answers, 2)
        self.assertEqual([mended.wrong for mended in found], [(5,), (11,)])
        right = [(2, wrong_answers(13)), (3, WRONG_MOST[2]), TOO_MANY]
        self.refuses_in_order(mended_answers, (LONG, THIRTEEN, (0,) * 13, 1), right)


class WebsAndPowersTest(Case):
    """Point 8.11: losses."""

    def test_webs(self):
        chance = random.Random(231)
        sizes = set()
        for _ in range(60):
            web = random_web(chance, chance.randint(1, 5), 0.5)
            grouping = chance.choice(list(all_groupings(web.points)))
            mould, book = web.as_mould(), book_of(grouping)
            if side_told(web, grouping) is None and answers_many(mould, book) <= 12:
                for tie, ends in enumerate(web.ties):
                    couple = tie_groups(grouping, ends)
                    piece = [piece for piece in pieces_between(web, grouping, *couple) if tie in piece.ties][0]
                    least = len(least_loss(mould, book, tie))
                    self.assertEqual(least, 1 if has_odd_ring(web, piece) else 2)
                    self.assertIs(lost_told(mould, book, tie, 1) is None, least == 2)
                    sizes.add(least)
        self.assertEqual(sizes, {1, 2})

    def test_books_of_powers(self):
        chance = random.Random(232)
        checked = 0
        for _ in range(40):
            mould = random_free(chance, chance.randint(1, 3), chance.randint(1, 5))
            many = chance.randint(1, 6)
            book = power_asks("column", mould.width, many)
            if answers_many(mould, book) <= 12:
                for letter, (row, column) in enumerate(mould.cells):
                    places = len([cell for cell in mould.cells if cell[0] == row])
                    if places <= many:
                        right = 1 if column == 0 else many - places + 1
                        self.assertEqual(len(least_loss(mould, book, letter)), right)
                        checked += 1
        self.assertGreater(checked, 30)

    def test_a_web_with_a_ring(self):
        triangle = Web(3, list(itertools.combinations(range(3), 2)))
        self.gives((0,), least_loss, triangle.as_mould(), book_of((0, 0, 0)), 0)
        path = Web(3, [(0, 1), (1, 2)])
        self.gives((0, 1), least_loss, path.as_mould(), book_of((0, 0, 0)), 0)
