import itertools
import random

from tests.helper import (
    Case, lots, not_sequences, not_wholes, random_book, rank_by_fractions, wrong_books, wrong_budgets,
)
from tests.test_cores import BUDGETS, MOULDS, NOT_FREE, SEVEN, SHARED, SMALL
from thinslopes.asks import book_answers, span_rows
from thinslopes.blocks import Block, block_fault, block_most, floor_block, hidden_in_block
from thinslopes.errors import BadBlock, NotFree
from thinslopes.moulds import Mould
from thinslopes.powerbooks import both_book, powers_tell

FULL = Mould(6, 6, list(itertools.product(range(6), repeat=2)))
# No strictly ascending numbers of two rows.
NO_LOTS = [*not_sequences(), (2,), [0, 2], (-1,), [1, 0], (0, 0), [True], (0, True), (None,), ("0",), ([0],)]


def most_of(budget, rows_many, columns_many):
    by_rows, by_columns = min(budget[0], columns_many), min(budget[1], rows_many)
    return by_rows * rows_many + by_columns * columns_many - by_rows * by_columns


def places_in(mould, rows, columns):
    return len([cell for cell in mould.cells if cell[0] in rows and cell[1] in columns])


class BlockMostTest(Case):
    """Point 6.6."""

    def test_all_budgets_and_sizes(self):
        for budget in BUDGETS:
            for rows_many, columns_many in itertools.product(range(7), repeat=2):
                self.gives(most_of(budget, rows_many, columns_many), block_most, budget, rows_many, columns_many)
                self.gives(most_of(budget, rows_many, columns_many), block_most, list(budget), rows_many, columns_many)

    def test_examples(self):
        self.gives(3, block_most, columns_many=2, rows_many=2, budget=(1, 1))
        self.gives(12, block_most, (2, 2), 4, 4)
        self.gives(0, block_most, (6, 2), 0, 6)
        self.gives(0, block_most, (6, 2), 6, 0)
        self.gives(36, block_most, (6, 2), 6, 6)

    def test_it_is_the_rank_of_full_blocks(self):
        """The answers of the best asks within a block have no more independent ones."""
        for rows_many, columns_many in itertools.product(range(1, 5), repeat=2):
            full = Mould(rows_many, columns_many, list(itertools.product(range(rows_many), range(columns_many))))
            for budget in BUDGETS:
                if sum(budget) <= 5:
                    rank = rank_by_fractions(span_rows(full, both_book(full, budget)))
                    self.assertEqual(rank, most_of(budget, rows_many, columns_many))

    def test_wrong_budgets(self):
        self.refuses_in_order(block_most, ((1, 1), 2, 2), [(0, wrong_budgets())])


class FloorBlockTest(Case):
    """Point 6.7: floor_block."""

    def expected(self, mould, budget):
        """The first too full block of all, gone through one by one."""
        blocks = [(len(rows) + len(columns), len(rows), rows, columns)
                  for rows in lots(range(mould.height)) for columns in lots(range(mould.width))]
        for _, _, rows, columns in sorted(blocks):
            places, most = places_in(mould, rows, columns), most_of(budget, len(rows), len(columns))
            if places > most:
                return Block(rows, columns, places, most)
        return None

    def test_the_first_too_full_block(self):
        chance = random.Random(121)
        kinds = set()
        for mould in MOULDS:
            for budget in chance.sample(BUDGETS, 2 if len(mould) > 20 else 6):
                block = self.expected(mould, budget)
                self.gives(block, floor_block, mould, budget)
                kinds.add(block is None)
                if block is not None:
                    self.gives(None, block_fault, mould, list(budget), block)
                    self.assertIs(powers_tell(mould, budget), False)
        self.assertEqual(kinds, {True, False})

    def test_a_too_full_block_bars_all_books(self):
        chance = random.Random(122)
        checked = 0
        for mould in MOULDS:
            budget = chance.choice([budget for budget in BUDGETS if sum(budget) <= 4])
            block = floor_block(mould, budget)
            if block is not None:
                for columns, rows in itertools.product(range(budget[0] + 1), range(budget[1] + 1)):
                    self.gives(None, block_fault, mould, (columns, rows), Block(
                        block.rows, block.columns, block.places, most_of(
                            (columns, rows), len(block.rows), len(block.columns))))
                book = random_book(chance, mould, 0)
                for kind, many in (("column", budget[0]), ("row", budget[1])):
                    for _ in range(many):
                        length = mould.width if kind == "column" else mould.height
                        book += ((kind, tuple(chance.randint(-9, 9) for _ in range(length))),)
                self.assertIsNotNone(hidden_in_block(mould, block.rows, block.columns, book))
                checked += 1
        self.assertGreater(checked, 20)

    def test_the_example_of_point_6_8(self):
        mould = Mould(4, 4, [cell for cell in itertools.product(range(4), repeat=2) if cell[0] != cell[1]])
        self.gives(None, floor_block, mould, (2, 2))
        self.gives(False, powers_tell, mould, (2, 2))

    def test_edges(self):
        self.gives(Block((0,), (0,), 1, 0), floor_block, FULL, (0, 0))
        self.gives(None, floor_block, Mould(3, 3, []), (0, 0))
        self.gives(None, floor_block, budget=[6, 2], mould=FULL)
        self.gives(Block((0, 1, 2), (0,), 3, 2), floor_block, SEVEN, (0, 2))
        self.gives(Block((0, 1), (0, 1), 4, 3), floor_block, SEVEN, (1, 1))
        self.gives(Block((0,), (0, 1, 2), 3, 2), floor_block, SEVEN, (2, 0))
        self.gives(Block((0, 1, 2, 3, 4), (0, 1, 2, 3, 4), 25, 24), floor_block, FULL, (4, 4))

    def test_errors(self):
        self.refuses_in_order(floor_block, (SHARED, (1, 1)), [(1, wrong_budgets()), NOT_FREE])


class BlockFaultTest(Case):
    """Point 6.7: block_fault."""

    def judged(self, word, rows, columns, places, most, budget=(1, 1)):
        self.gives(word, block_fault, SEVEN, budget, Block(rows, columns, places, most))

    def test_right_blocks(self):
        self.judged(None, (0, 1), (0, 1), 4, 3)
        self.judged(None, [0, 1], [0, 1], 4, 3)
        self.judged(None, (0, 1, 2), (0, 1, 2), 7, 5)
        self.judged(None, (0,), (2,), 1, 0, (0, 0))

    def test_rows_and_columns(self):
        for thing in [*NO_LOTS, (3,), [0, 3], (2, 2)]:
            if thing in ((2,), [0, 2]):
                continue
            self.judged("rows", thing, (0, 1), 4, 3)
            self.judged("columns", (0, 1), thing, 4, 3)

    def test_places_and_most(self):
        for thing in [*not_wholes(), 3, 5]:
            self.judged("places", (0, 1), (0, 1), thing, 3)
        for thing in [*not_wholes(), 2, 4]:
            self.judged("most", (0, 1), (0, 1), 4, thing)
        self.judged("places", (0,), (2,), True, 0, (0, 0))
        self.judged("most", (1,), (1,), 1, True)

    def test_few(self):
        self.judged("few", (0, 1), (1, 2), 3, 3)
        self.judged("few", (0,), (0,), 1, 1)

    def test_blocks_without_rows_or_columns(self):
        self.judged("few", (), (), 0, 0)
        self.judged("few", [], (0, 1, 2), 0, 0)
        self.judged("few", (0, 1), [], 0, 0, (0, 0))
        self.judged("places", (), (0,), 1, 0)

    def test_two_words_at_once(self):
        self.judged("rows", None, None, None, None)
        self.judged("columns", (0,), (0, 0), None, None)
        self.judged("places", (0,), (0,), 2, 0)
        self.judged("most", (0,), (0,), 1, 2)

    def test_errors(self):
        block = Block(None, None, None, None)
        self.refuses_in_order(block_fault, (SHARED, (1, 1), block), [(1, wrong_budgets()), NOT_FREE])


class HiddenInBlockTest(Case):
    """Point 6.7: hidden_in_block."""

    def test_hidden_fillings(self):
        chance = random.Random(123)
        kinds = set()
        for mould in MOULDS:
            for _ in range(3):
                rows = tuple(row for row in range(mould.height) if chance.random() < 0.7)
                columns = tuple(column for column in range(mould.width) if chance.random() < 0.7)
                book = random_book(chance, mould, 4)
                found = self.taken(hidden_in_block, mould, list(rows), columns, book)
                within = [at for at, cell in enumerate(mould.cells) if cell[0] in rows and cell[1] in columns]
                span = [[row[at] for at in within] for row in span_rows(mould, book)]
                self.assertIs(found is None, rank_by_fractions(span) == len(within))
                kinds.add(found is None)
                if found is not None:
                    self.assertEqual([type(number) for number in found], [int] * len(mould))
                    self.assertTrue(any(found[at] for at in within))
                    self.assertFalse(any(found[at] for at in range(len(mould)) if at not in within))
                    self.assertEqual(set(book_answers(mould, book, found)) - {(0, 1)}, set())
        self.assertEqual(kinds, {True, False})

    def test_edges(self):
        self.gives(None, hidden_in_block, FULL, (), (0, 1), [])
        self.gives(None, hidden_in_block, FULL, (0, 1), [], [])
        self.gives(None, hidden_in_block, Mould(2, 2, []), (0, 1), (0, 1), [])
        self.gives((0, 1), hidden_in_block, SMALL, (1,), (0, 2), [])
        self.gives(None, hidden_in_block, book=[("row", (0, 1))], block_columns=[2], block_rows=[1], mould=SMALL)
        five = (0, 1, 2, 3, 4)
        self.assertIsNotNone(hidden_in_block(FULL, five, five, both_book(FULL, (4, 4))))

    def test_errors(self):
        rows = [(thing, BadBlock("rows")) for thing in NO_LOTS]
        columns = [(thing, BadBlock("columns")) for thing in [*not_sequences(), (3,), [1, 1], (True,), (0, 2, 1)]]
        wrong = [(1, rows), (2, columns), (3, wrong_books(SMALL))]
        self.refuses_in_order(hidden_in_block, (SMALL, (0,), (0,), []), wrong)
        wrong = [(1, rows), (2, columns), (3, wrong_books(SHARED)), NOT_FREE]
        self.refuses_in_order(hidden_in_block, (SHARED, (0,), (0,), []), wrong)
        self.refuses(NotFree(), hidden_in_block, SHARED, (), (), [])
