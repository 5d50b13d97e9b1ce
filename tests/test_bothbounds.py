import itertools
import random

from tests.helper import Case, lots, random_book, random_free
from tests.test_blocks import most_of, places_in
from tests.test_cores import BUDGETS, SEVEN, SHARED
from thinslopes.blocks import Block, block_fault, floor_block
from thinslopes.bothbounds import Bounds, both_bounds
from thinslopes.cores import core_of
from thinslopes.errors import NotFree
from thinslopes.groupings import groups_many
from thinslopes.groups import fewest_groups
from thinslopes.moulds import Mould
from thinslopes.powerbooks import both_book, powers_tell
from thinslopes.told import tells_all

FULL = Mould(6, 6, list(itertools.product(range(6), repeat=2)))
IN_ORDER = sorted(BUDGETS, key=lambda budget: (sum(budget), budget))


def some_moulds():
    chance = random.Random(131)
    found = [Mould(2, 3, lot) for lot in lots(list(itertools.product(range(2), range(3))))]
    for _ in range(25):
        found.append(random_free(chance, chance.randint(2, 4), chance.randint(2, 4), chance.random()))
    return found


MOULDS = some_moulds()


class BothBoundsTest(Case):
    """Points 6.8 and 6.9."""

    def is_open(self, mould, budget):
        for rows in lots(range(mould.height)):
            for columns in lots(range(mould.width)):
                if places_in(mould, rows, columns) > most_of(budget, len(rows), len(columns)):
                    return False
        return True

    def test_against_all_budgets(self):
        for mould in MOULDS:
            found = self.taken(both_bounds, mould)
            low = next(budget for budget in IN_ORDER if self.is_open(mould, budget))
            high = next(budget for budget in IN_ORDER if tells_all(mould, both_book(mould, budget)))
            cored = next(budget for budget in IN_ORDER if core_of(mould, budget).cells == ())
            blocks = tuple(floor_block(mould, budget) for budget in IN_ORDER if sum(budget) == sum(low) - 1)
            expected = Bounds(sum(low), low, blocks, sum(high), high, sum(cored), cored)
            self.same(found, expected)
            self.assertTrue(found.low <= found.high <= found.cored)
            for budget, block in zip([budget for budget in IN_ORDER if sum(budget) == found.low - 1], blocks):
                self.assertIsNone(block_fault(mould, budget, block))

    def test_the_ladder_of_each_budget(self):
        """Point 6.8: an empty core, then a book that tells all, then no block too full; alike for simple budgets."""
        for mould in MOULDS[::2]:
            for budget in IN_ORDER[:20]:
                cored = core_of(mould, budget).cells == ()
                tells = powers_tell(mould, budget)
                opened = floor_block(mould, budget) is None
                self.assertTrue(cored <= tells <= opened)
                if 0 in budget or budget == (1, 1):
                    self.assertTrue(cored == tells == opened)

    def test_no_book_of_fewer_asks_tells_all(self):
        chance = random.Random(132)
        for mould in MOULDS:
            low = both_bounds(mould).low
            for _ in range(4 if low else 0):
                self.assertIs(tells_all(mould, random_book(chance, mould, low - 1, 9)), False)

    def test_at_most_the_most_places_of_a_line_and_the_groups(self):
        for mould in MOULDS:
            found = both_bounds(mould)
            for turned in (mould, mould.turned()):
                rows = [row for row, column in turned.cells]
                self.assertLessEqual(found.cored, max([rows.count(row) for row in rows], default=0))
                self.assertLessEqual(found.low, groups_many(fewest_groups(turned)))

    def test_the_examples(self):
        found = self.taken(both_bounds, SEVEN)
        self.same(found, Bounds(3, (0, 3), found.blocks, 3, (0, 3), 3, (0, 3)))
        expected = (
            Block((0, 1, 2), (0,), 3, 2), Block((0, 1), (0, 1), 4, 3), Block((0,), (0, 1, 2), 3, 2),
        )
        self.same(found.blocks, expected)
        arrow = Mould(4, 4, sorted({cell for at in range(4) for cell in ((0, at), (at, 0), (at, at))}))
        found = both_bounds(mould=arrow)
        self.same(found, Bounds(3, (1, 2), found.blocks, 3, (1, 2), 3, (1, 2)))

    def test_edges(self):
        self.gives(Bounds(0, (0, 0), (), 0, (0, 0), 0, (0, 0)), both_bounds, Mould(3, 4, []))
        one = Bounds(1, (0, 1), (Block((1,), (2,), 1, 0),), 1, (0, 1), 1, (0, 1))
        self.gives(one, both_bounds, Mould(3, 4, [(1, 2)]))
        found = self.taken(both_bounds, FULL)
        self.assertEqual((found.low, found.high, found.cored), (6, 6, 6))
        self.assertEqual((found.low_budget, found.high_budget, found.cored_budget), ((0, 6), (0, 6), (0, 6)))
        self.assertEqual(len(found.blocks), 6)
        self.refuses(NotFree(), both_bounds, SHARED)
