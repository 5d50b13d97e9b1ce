import itertools
import random

from tests.helper import Case, gapped, lots, not_sequences, random_free, wrong_groupings
from tests.test_cores import NOT_FREE, SHARED
from thinslopes.asks import book_answers
from thinslopes.bothgroups import Chain, both_told, chain_fault, groups_book, told_by_both, unread_cell
from thinslopes.errors import BadGrouping, NotFree, TooMany
from thinslopes.groupings import book_of, groups_many
from thinslopes.moulds import Mould
from thinslopes.reading import read_letters
from thinslopes.taking import taken_wholly
from thinslopes.told import told_letters

SQUARE = Mould(2, 2, [(0, 0), (0, 1), (1, 0), (1, 1)])
PLACES = Mould(2, 3, [(0, 0), (0, 1), (1, 1), (1, 2)])
FULL = Mould(6, 6, list(itertools.product(range(6), repeat=2)))


def some_cases():
    chance = random.Random(141)
    cases = []
    for lot in lots(list(itertools.product(range(2), range(3)))):
        for rows in gapped(2):
            cases += [(Mould(2, 3, lot), rows, columns) for columns in chance.sample(gapped(3), 3)]
    for _ in range(150):
        mould = random_free(chance, chance.randint(2, 5), chance.randint(2, 5), chance.choice((0.3, 0.5, 0.8)))
        cases.append((mould, chance.choice(gapped(mould.height)), chance.choice(gapped(mould.width))))
    return [case for case in cases if groups_many(case[1]) + groups_many(case[2]) <= 8]


CASES = some_cases()
WRONG = [(1, wrong_groupings(2, True)), (2, wrong_groupings(3, True))]


class GroupsBookTest(Case):
    """Point 6.10: groups_book."""

    def test_books(self):
        book = (("column", (1, 0, 1)), ("column", (0, 1, 0)), ("row", (0, 1)))
        self.gives(book, groups_book, PLACES, [None, 0], [0, 1, 0])
        self.gives(book, groups_book, column_groups=(0, 1, 0), row_groups=(None, 0), mould=PLACES)
        self.gives((), groups_book, PLACES, (None, None), [None] * 3)
        for mould, rows, columns in CASES[::7]:
            asks = [("row", numbers) for kind, numbers in book_of(rows)]
            self.gives((*book_of(columns), *asks), groups_book, mould, list(rows), columns)

    def test_more_than_8_groups(self):
        self.assertEqual(len(groups_book(FULL, (0, 1, 2, 3, None, None), (0, 1, 2, 3, 3, 3))), 8)
        self.refuses(TooMany(9), groups_book, FULL, (0, 1, 2, 3, 4, None), (0, 1, 2, 3, 3, 3))
        self.refuses(TooMany(12), groups_book, FULL, (0, 1, 2, 3, 4, 5), (0, 1, 2, 3, 4, 5))
        many = Mould(6, 6, [(0, 0), (0, 1)], [0, 0])
        self.refuses(NotFree(), groups_book, many, (0, 1, 2, 3, 4, 5), (0, 1, 2, 3, 4, 5))

    def test_errors_of_all(self):
        calls = [groups_book, unread_cell, told_by_both, both_told, lambda *args: chain_fault(*args, Chain(None))]
        for call in calls:
            self.refuses_in_order(call, (PLACES, (0, 0), (0, 0, 0)), WRONG)
            wrong = [(1, wrong_groupings(2, True)), (2, wrong_groupings(2, True)), NOT_FREE]
            self.refuses_in_order(call, (SHARED, (0, 0), (0, 0)), wrong)
            self.refuses(BadGrouping(0), call, PLACES, [1, 0], [5])


class UnreadCellTest(Case):
    """Point 6.10: unread_cell."""

    def test_against_the_letters_that_are_read(self):
        kinds = set()
        for mould, rows, columns in CASES:
            read = dict(read_letters(mould, groups_book(mould, rows, columns)))
            unread = [cell for letter, cell in enumerate(mould.cells) if letter not in read]
            self.gives(unread[0] if unread else None, unread_cell, mould, list(rows), columns)
            kinds.add(bool(unread))
        self.assertEqual(kinds, {True, False})

    def test_examples(self):
        self.gives((0, 0), unread_cell, SQUARE, (0, 0), (0, 0))
        self.gives((1, 0), unread_cell, SQUARE, (0, None), (0, 0))
        self.gives(None, unread_cell, SQUARE, (None, None), (0, 1))
        self.gives((0, 1), unread_cell, PLACES, [None, None], [0, None, 0])
        self.gives(None, unread_cell, Mould(2, 2, []), (None, None), (None, None))
        self.gives(None, unread_cell, FULL, (0, 1, 2, 3, 4, 5), (0, 1, 2, 3, 4, 5))
        self.gives((4, 4), unread_cell, column_groups=(0, 1, 2, 3, 4, 4), row_groups=(0, 1, 2, 3, 4, 4), mould=FULL)


class ToldByBothTest(Case):
    """Points 6.11 and 6.12: told_by_both and both_told."""

    def test_against_the_span_rows_of_the_book(self):
        kinds = set()
        for mould, rows, columns in CASES:
            book = groups_book(mould, rows, columns)
            told = told_letters(mould, book)
            self.gives(told, told_by_both, mould, rows, list(columns))
            chain = self.taken(both_told, mould, rows, columns)
            kinds.add(chain is None)
            self.assertIs(chain is None, len(told) == len(mould))
            self.assertIs(chain is None, taken_wholly(mould, book).missing == ())
            if chain is not None:
                self.right(mould, rows, columns, chain)
        self.assertEqual(kinds, {True, False})

    def right(self, mould, rows, columns, chain):
        self.assertIs(type(chain), Chain)
        self.assertEqual(len(set(chain.cells)), len(chain.cells))
        numbers = [0] * len(mould)
        for at, cell in enumerate(chain.cells):
            numbers[mould.cells.index(cell)] = (-1) ** at
        self.assertTrue(any(numbers))
        answers = book_answers(mould, groups_book(mould, rows, columns), numbers)
        self.assertEqual(set(answers) - {(0, 1)}, set())
        self.gives(None, chain_fault, mould, list(rows), list(columns), chain)
        self.gives(None, chain_fault, mould, rows, columns, Chain([list(cell) for cell in chain.cells]))

    def test_chains_of_each_kind(self):
        self.gives(Chain(((1, 1),)), both_told, PLACES, (0, None), (0, None, 1))
        self.same(sorted(both_told(SQUARE, (0, 0), (0, 0)).cells), sorted(SQUARE.cells))
        self.same(sorted(both_told(SQUARE, (None, None), (0, 0)).cells), [(0, 0), (0, 1)])
        self.same(sorted(both_told(SQUARE, (0, 0), (None, None)).cells), [(0, 0), (1, 0)])
        chain = both_told(FULL, row_groups=(None,) * 6, column_groups=(0, 1, 2, 3, 4, 0))
        self.same(sorted(chain.cells), [(0, 0), (0, 5)])
        ring = Mould(3, 3, [(0, 0), (0, 1), (1, 1), (1, 2), (2, 0), (2, 2)])
        self.same(sorted(both_told(ring, (0, 0, 0), (0, 0, 0)).cells), list(ring.cells))
        self.gives(None, both_told, ring, (0, 0, 1), (0, 0, 0))
        self.gives(None, both_told, PLACES, (0, 0), (0, 0, 0))

    def test_more_than_8_groups(self):
        everything = tuple(range(6))
        self.gives(tuple(range(36)), told_by_both, FULL, everything, everything)
        self.gives(None, both_told, FULL, everything, everything)
        self.gives(None, unread_cell, FULL, everything, everything)
        halves = (0, 1, 2, 3, 4, 4)
        told = tuple(at for at, cell in enumerate(FULL.cells) if cell[0] < 4 or cell[1] < 4)
        self.gives(told, told_by_both, FULL, halves, halves)
        chain = both_told(FULL, halves, halves)
        self.same(sorted(chain.cells), [(4, 4), (4, 5), (5, 4), (5, 5)])
        self.gives(None, chain_fault, FULL, halves, halves, chain)

    def test_edges(self):
        self.gives((), told_by_both, Mould(2, 2, []), (0, 0), (0, 0))
        self.gives(None, both_told, Mould(2, 2, []), (None, None), (None, None))
        self.gives((), told_by_both, SQUARE, (None, None), (None, None))
        self.gives(Chain(((0, 0),)), both_told, SQUARE, (None, None), (None, None))


class ChainFaultTest(Case):
    """Point 6.12: chain_fault."""

    def judged(self, word, cells, rows=(0, 0), columns=(0, 0)):
        self.gives(word, chain_fault, SQUARE, rows, columns, Chain(cells))

    def test_right_chains(self):
        self.judged(None, ((0, 0), (0, 1), (1, 1), (1, 0)))
        self.judged(None, [[0, 1], [0, 0], [1, 0], [1, 1]])
        self.judged(None, [(0, 0), (0, 1)], (None, None))
        self.judged(None, [(1, 0)], (0, None), (None, 0))

    def test_cells(self):
        for thing in [*not_sequences(), [], (), [(0, 2)], [(0, 0), None], [(0, 0), (0, 0)], [[0, 0], (0, 0)], [0]]:
            self.judged("cells", thing)
        for thing in ((True, 0), (0,), (0, 0, 0), [0, "0"], (-1, 0), {0: 0, 1: 1}):
            self.judged("cells", [(0, 0), thing, (1, 1), (1, 0)])
        self.gives("cells", chain_fault, PLACES, (0, 0), (0, 0, 0), Chain([(0, 2)]))

    def test_answer(self):
        self.judged("answer", [(0, 0)])
        self.judged("answer", [(0, 0), (0, 1)])
        self.judged("answer", [(0, 0), (1, 1), (0, 1), (1, 0)])
        self.judged("answer", [(0, 0), (0, 1)], (None, None), (0, 1))

    def test_two_words_at_once(self):
        self.judged("cells", [(0, 0), (0, 0), (0, 1)])
        self.judged("cells", [(0, 0), (5, 5)])

    def test_every_chain_of_a_square(self):
        for rows, columns in itertools.product(gapped(2), gapped(2)):
            book = groups_book(SQUARE, rows, columns)
            for length in range(1, 5):
                for cells in itertools.permutations(SQUARE.cells, length):
                    numbers = [0] * 4
                    for at, cell in enumerate(cells):
                        numbers[SQUARE.cells.index(cell)] = (-1) ** at
                    right = set(book_answers(SQUARE, book, numbers)) <= {(0, 1)}
                    self.judged(None if right else "answer", cells, rows, columns)
