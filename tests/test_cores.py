import itertools
import random

from tests.helper import Case, lots, not_sequences, not_wholes, random_free, wrong_budgets
from thinslopes.asks import power_asks
from thinslopes.cores import Core, check_budget, check_lines, core_of, plain_order, strikes_fault
from thinslopes.errors import BadLines, NotFree
from thinslopes.moulds import Mould
from thinslopes.told import told_letters

SHARED = Mould(2, 2, [(0, 0), (0, 1), (1, 1)], [0, 1, 0])
# The mould of the example of point 6.2.
SEVEN = Mould(3, 3, [(0, 0), (0, 1), (0, 2), (1, 0), (1, 1), (2, 0), (2, 2)])
SMALL = Mould(2, 3, [(0, 0), (1, 2)])
ORDER = (("row", 0), ("row", 1), ("column", 0), ("column", 1), ("column", 2))
NO_LINES = [("row", 2), ("column", 3), ("row", -1), ("row", True), ("rows", 0), ("row",), ("row", 0, 0), (None, 0),
            ("column", None), ("row", [0]), ([], 0), "r0", None, 0, object()]
LINES = [(thing, BadLines(0)) for thing in [*not_sequences(), [("x", 0)], ()]]
LINES += [([("row", 1), thing, None], BadLines(1)) for thing in [*NO_LINES, ("row", 1), ["row", 1]]]
LINES += [(ORDER[:3], BadLines(3)), ([*ORDER, ORDER[0]], BadLines(5)), ([*ORDER, None], BadLines(5))]
# Where an order may be left out, None is none of these.
OTHER_LINES = [couple for couple in LINES if couple[0] is not None]
NOT_FREE = (0, [(SHARED, NotFree())])
BUDGETS = [(columns, rows) for columns in range(7) for rows in range(7) if columns + rows <= 8]


def free_moulds():
    chance = random.Random(101)
    found = [Mould(2, 3, lot) for lot in lots(list(itertools.product(range(2), range(3))))]
    found += [SEVEN, Mould(4, 4, []), Mould(6, 6, list(itertools.product(range(6), repeat=2)))]
    for _ in range(30):
        found.append(random_free(chance, chance.randint(1, 6), chance.randint(1, 6), chance.random()))
    return found


MOULDS = free_moulds()


def lines_of(mould):
    return [("row", row) for row in range(mould.height)] + [("column", column) for column in range(mould.width)]


def left_in(cells, line):
    return {cell for cell in cells if cell[0 if line[0] == "row" else 1] == line[1]}


def able_lines(cells, budget, lines):
    most = {"row": budget[0], "column": budget[1]}
    return [line for line in lines if 1 <= len(left_in(cells, line)) <= most[line[0]]]


class BudgetTest(Case):
    """Point 6.1: check_budget."""

    def test_all_budgets(self):
        for columns, rows in itertools.product(range(9), repeat=2):
            if (columns, rows) in BUDGETS:
                self.gives((columns, rows), check_budget, [columns, rows])
                self.gives((columns, rows), check_budget, (columns, rows))
            else:
                self.assertRaises(ValueError, check_budget, (columns, rows))
        self.gives((0, 0), check_budget, budget=[0, 0])
        self.gives((6, 2), check_budget, (6, 2))

    def test_wrong_budgets(self):
        for thing, error in wrong_budgets():
            self.refuses(error, check_budget, thing)


class LinesTest(Case):
    """Point 6.1: check_lines and plain_order."""

    def test_orders(self):
        self.gives(ORDER, plain_order, SMALL)
        self.gives(ORDER, check_lines, SMALL, ORDER)
        self.gives(ORDER[::-1], check_lines, order=[list(line) for line in ORDER[::-1]], mould=SMALL)
        for mould in MOULDS:
            self.gives(tuple(lines_of(mould)), plain_order, mould)

    def test_wrong_lines(self):
        self.refuses_in_order(check_lines, (SMALL, ORDER), [(1, LINES)])

    def test_moulds_that_are_not_free(self):
        self.refuses(NotFree(), plain_order, SHARED)
        self.refuses(NotFree(), check_lines, SHARED, (("row", 0), ("row", 1), ("column", 0), ("column", 1)))
        self.refuses(BadLines(0), check_lines, SHARED, None)

    def test_later_changes_have_no_effect(self):
        order = [list(line) for line in ORDER]
        found = check_lines(SMALL, order)
        order[0][1] = 1
        order.pop()
        self.same(found, ORDER)


class CoreTest(Case):
    """Point 6.2."""

    def expected(self, mould, budget, order):
        cells, strikes = set(mould.cells), []
        while able_lines(cells, budget, order):
            strikes.append(able_lines(cells, budget, order)[0])
            cells -= left_in(cells, strikes[-1])
        return Core(tuple(strikes), tuple(sorted(cells)))

    def test_the_first_line_that_can_be_struck(self):
        chance = random.Random(102)
        for mould in MOULDS:
            for budget in chance.sample(BUDGETS, 8):
                plain = self.expected(mould, budget, lines_of(mould))
                self.gives(plain, core_of, mould, budget)
                self.gives(plain, core_of, mould, list(budget), None)
                for _ in range(3):
                    order = chance.sample(lines_of(mould), mould.height + mould.width)
                    result = self.expected(mould, budget, order)
                    self.gives(result, core_of, mould, budget, [list(line) for line in order])
                    self.same(result.cells, plain.cells)
                    self.gives(None, strikes_fault, mould, budget, result.strikes)

    def test_the_core_is_the_same_in_every_order(self):
        mould = Mould(2, 2, [(0, 0), (0, 1), (1, 0)])
        for budget in BUDGETS:
            cores = {core_of(mould, budget, order).cells for order in itertools.permutations(lines_of(mould))}
            self.assertEqual(len(cores), 1)
        chance = random.Random(103)
        for _ in range(30):
            mould, budget = chance.choice(MOULDS), chance.choice(BUDGETS)
            cells = set(mould.cells)
            while able_lines(cells, budget, lines_of(mould)):
                cells -= left_in(cells, chance.choice(able_lines(cells, budget, lines_of(mould))))
            self.assertEqual(core_of(mould, budget).cells, tuple(sorted(cells)))

    def test_the_example(self):
        strikes = (("row", 1), ("row", 2), ("column", 0), ("row", 0))
        self.gives(Core(strikes, ()), core_of, SEVEN, (2, 1))
        self.gives(Core((), SEVEN.cells), core_of, SEVEN, (1, 1))

    def test_edges(self):
        for mould in MOULDS:
            self.gives(Core((), mould.cells), core_of, mould, (0, 0))
        for budget in BUDGETS:
            self.gives(Core((), ()), core_of, order=None, budget=budget, mould=Mould(4, 4, []))
        full = Mould(6, 6, list(itertools.product(range(6), repeat=2)))
        self.gives(Core((), full.cells), core_of, full, (5, 3))
        self.gives(Core(tuple(("row", row) for row in range(6)), ()), core_of, full, (6, 2))
        # Behind four columns each row has two places left, and rows stand first in the plain order.
        strikes = [("column", column) for column in range(4)] + [("row", row) for row in range(6)]
        self.gives(Core(tuple(strikes), ()), core_of, full, (2, 6))
        self.gives(Core(tuple(("column", column) for column in range(6)), ()), core_of, full, (0, 6))

    def test_the_power_book_tells_all_letters_outside_the_core(self):
        chance = random.Random(104)
        for mould in MOULDS:
            columns, rows = chance.choice(BUDGETS)
            book = power_asks("column", mould.width, columns) + power_asks("row", mould.height, rows)
            told = told_letters(mould, book)
            core = core_of(mould, (columns, rows)).cells
            for letter, cell in enumerate(mould.cells):
                self.assertTrue(cell in core or letter in told)

    def test_errors(self):
        order = [(1, wrong_budgets()), (2, OTHER_LINES)]
        self.refuses_in_order(core_of, (SMALL, (1, 1), ORDER), order)
        right = (("row", 0), ("row", 1), ("column", 0), ("column", 1))
        self.refuses(NotFree(), core_of, SHARED, (1, 1))
        self.refuses(NotFree(), core_of, SHARED, (1, 1), right)
        self.refuses(BadLines(3), core_of, SHARED, (1, 1), right[:3])
        self.refuses_in_order(core_of, (SHARED, (1, 1), right), [order[0], (2, [(None, NotFree())])])


class StrikesFaultTest(Case):
    """Point 6.3."""

    STRIKES = [("row", 1), ["row", 2], ("column", 0), ("row", 0)]

    def judged(self, word, strikes, budget=(2, 1)):
        self.gives(word, strikes_fault, SEVEN, budget, strikes)

    def test_right_strikes(self):
        self.judged(None, self.STRIKES)
        self.judged(None, [("row", 2), ("row", 1), ("row", 0)], (3, 0))
        self.judged(None, (), (0, 0))
        self.gives(None, strikes_fault, strikes=[], budget=[2, 2], mould=Mould(3, 3, []))

    def test_line(self):
        for thing in not_sequences():
            self.judged("line", thing)
        for thing in [("row", 3), ("column", -1), ("x", 0), ("row", True), ("row",), None, 5, ("row", 0, 1)]:
            self.judged("line", [("row", 1), thing, None])

    def test_empty_and_many(self):
        self.judged("empty", [("row", 1), ("row", 1)])
        self.judged("empty", [("row", 1), ("row", 2), ("column", 0), ("column", 0)])
        self.judged("many", [("row", 0)])
        self.judged("many", [("row", 1), ("column", 0)])
        self.judged("many", [("row", 1)], (1, 6))

    def test_more(self):
        for many in range(4):
            self.judged("more", self.STRIKES[:many])
        self.judged("more", [], (0, 2))

    def test_two_words_at_once(self):
        self.judged("line", [("row", 3), ("row", 0)])
        self.judged("empty", [("row", 1), ("row", 1), None])
        self.judged("many", [("column", 0)])
        self.judged("empty", [("row", 1), ("row", 1)], (2, 0))

    def test_every_row_of_strikes(self):
        """Against striking by the words of the point."""
        mould = Mould(2, 2, [(0, 0), (0, 1), (1, 1)])
        for budget in ((1, 1), (2, 0), (0, 1), (2, 2)):
            for length in range(4):
                for strikes in itertools.product(lines_of(mould), repeat=length):
                    cells, word = set(mould.cells), None
                    for line in strikes:
                        there = left_in(cells, line)
                        if word is None and not there:
                            word = "empty"
                        if word is None and line not in able_lines(cells, budget, [line]):
                            word = "many"
                        cells -= there
                    if word is None and able_lines(cells, budget, lines_of(mould)):
                        word = "more"
                    self.gives(word, strikes_fault, mould, budget, strikes)

    def test_errors(self):
        self.refuses_in_order(strikes_fault, (SHARED, (1, 1), None), [(1, wrong_budgets()), NOT_FREE])
