import itertools
import random

from tests.helper import Case, as_fraction, random_book, wrong_books
from tests.test_polys import wrong_values
from tests.test_programs import EXAMPLE, HIGH, PROGRAMS, SMALL, great_program, random_program, random_values
from tests.test_slopes import GONE, wrong_entries, wrong_results
from thinslopes.asks import book_answers, power_asks
from thinslopes.cores import check_budget
from thinslopes.errors import BadShape
from thinslopes.gained import Apart, RunTable, run_answers, table_by_runs, told_always
from thinslopes.groupings import book_of
from thinslopes.groups import fewest_groups
from thinslopes.moulds import Mould
from thinslopes.polys import Poly
from thinslopes.powerbooks import both_book
from thinslopes.powers import fewest_columns
from thinslopes.programs import Program
from thinslopes.recover import Clash, clash_fault
from thinslopes.slopes import mould_by_steps, program_mould, slope_polys, table_at
from thinslopes.spans import Weights
from thinslopes.told import told_letters

ZERO = (0, 1)
SHAPE = Mould(3, 2, [])


def full_mould(program):
    height = len(program.results)
    return Mould(height, program.entries, list(itertools.product(range(height), range(program.entries))))


def answers_at(program, values, book):
    """The answers of the table itself, as a filling of the mould of all cells."""
    return book_answers(full_mould(program), book, [ratio for row in table_at(program, values) for ratio in row])


def products_of(program, book):
    return 3 * program.times_many * len(book)


class RunAnswersTest(Case):
    """Point 9.11: run_answers."""

    def test_the_answers_of_the_table(self):
        chance = random.Random(311)
        for program in PROGRAMS:
            for greatest in (2, HIGH):
                values = random_values(chance, program.entries, greatest)
                book = random_book(chance, full_mould(program), 8, greatest)
                self.gives(answers_at(program, values, book), run_answers, program, list(values), list(book))

    def test_examples(self):
        self.gives(((28, 1), (14, 1), (14, 1)), run_answers, EXAMPLE, (3, 4), [["column", [1, 1]], ("row", (1,))])
        self.gives((), run_answers, book=(), values=[0, 0], program=SMALL)

    def test_errors(self):
        self.refuses_in_order(run_answers, (SMALL, (0, 0), ()), [(1, wrong_values(2)), (2, wrong_books(SHAPE))])


class TableByRunsTest(Case):
    """Point 9.11: table_by_runs."""

    def books_for(self, program, mould):
        """Books of groups, of powers and of rows, all of which tell the whole mould."""
        free = Mould(mould.height, mould.width, mould.cells)
        many = fewest_columns(free).count
        turned = book_of(fewest_groups(free.turned()))
        found = [book_of(fewest_groups(free)), power_asks("column", program.entries, many)]
        found.append(tuple(("row", numbers) for _, numbers in turned))
        found.append(both_book(free, check_budget((many, 1))))
        return [book for book in found if len(book) <= 8]

    def moulds_of(self, program):
        return [program_mould(program), program_mould(program, shared=True), mould_by_steps(program)]

    def test_tables_are_recovered_by_books_that_tell_all(self):
        chance = random.Random(312)
        for program in [*PROGRAMS, GONE]:
            for mould in self.moulds_of(program):
                values = random_values(chance, program.entries)
                for book in self.books_for(program, mould):
                    right = RunTable(table_at(program, values), products_of(program, book))
                    self.gives(right, table_by_runs, program, list(values), list(book), mould)
                    if mould == program_mould(program):
                        self.gives(right, table_by_runs, program, values, book)

    def test_any_books(self):
        """No clash, all ratios right, and each told place has one."""
        chance = random.Random(313)
        kinds = set()
        for program in [*PROGRAMS, GONE]:
            for mould in self.moulds_of(program):
                values = random_values(chance, program.entries)
                book = random_book(chance, mould, 3, 2)
                found = self.taken(table_by_runs, program, values, book, mould)
                self.assertIsInstance(found, RunTable)
                self.assertEqual(found.products, products_of(program, book))
                told = told_letters(mould, book)
                for row, line in enumerate(table_at(program, values)):
                    for column, ratio in enumerate(line):
                        letter = mould.letter_at(row, column)
                        right = ZERO if letter is None else ratio if letter in told else None
                        self.same(found.rows[row][column], right)
                        kinds.add((letter is None, right is None))
        self.assertEqual(len(kinds), 3)

    def test_a_mould_that_does_not_hold_the_table(self):
        book = [("column", (1, 0)), ("column", (0, 1))]
        mould = Mould(1, 2, [(0, 0), (0, 1)], [0, 0])
        program = Program(2, [("times", 0, 1)], (2,))
        found = self.taken(table_by_runs, program, (3, 4), book, mould)
        self.assertIsInstance(found, Clash)
        self.assertIsNone(clash_fault(mould, book, run_answers(program, (3, 4), book), found))
        # At values where both slopes are alike the table is a filling of it.
        self.gives(RunTable((((4, 1), (4, 1)),), 6), table_by_runs, program, (4, 4), book, mould)
        # Answers that some filling gives, though not the table, lead astray.
        self.gives(RunTable((((7, 1), ZERO),), 3), table_by_runs, program, (3, 4), [("column", (1, 1))],
                   Mould(1, 2, [(0, 0)]))

    def test_examples(self):
        self.gives(RunTable((((14, 1), (14, 1)),), 9), table_by_runs, EXAMPLE, (3, 4), [("row", [1])])
        self.gives(RunTable(((None, None),), 9), table_by_runs, EXAMPLE, (3, 4), [("column", [1, 1])])
        self.gives(RunTable((((14, 1), (14, 1)),), 9), table_by_runs, mould=program_mould(EXAMPLE, shared=True),
                   book=[("column", [1, 1])], values=[3, 4], program=EXAMPLE)
        self.gives(RunTable(((ZERO, ZERO), (None, None), (None, ZERO)), 0), table_by_runs, GONE, (1, 2), [])

    def test_errors(self):
        wrong = [(1, wrong_values(2)), (2, wrong_books(SHAPE))]
        self.refuses_in_order(table_by_runs, (SMALL, (0, 0), ()), wrong)
        shapes = [(Mould(height, width, []), BadShape()) for height, width in ((2, 2), (3, 3), (4, 2), (3, 1), (2, 3))]
        self.refuses_in_order(table_by_runs, (SMALL, (0, 0), (), None), [*wrong, (3, shapes)])


def sum_by(polys, numbers):
    total = polys[0] - polys[0]
    for poly, number in zip(polys, numbers):
        total = total + Poly(poly.many, [(powers, times * number) for powers, times in poly.terms])
    return total


def answer_polys(program, book):
    polys = slope_polys(program)
    found = []
    for kind, numbers in book:
        found += [sum_by(line, numbers) for line in (polys if kind == "column" else list(zip(*polys)))]
    return found


def made(terms, poly):
    numbers = dict(poly.terms)
    return sum(number * numbers.get(powers, 0) for powers, number in terms)


class ToldAlwaysTest(Case):
    """Point 9.12."""

    def check_weights(self, program, book, slope, weights):
        self.assertEqual(len(weights.row), len(answer_polys(program, book)))
        left = {powers: as_fraction(number) for powers, number in slope.terms}
        for weight, poly in zip(weights.row, answer_polys(program, book)):
            self.assertIsInstance(weight, tuple)
            for powers, number in poly.terms:
                left[powers] = left.get(powers, 0) - as_fraction(weight) * number
        self.assertEqual([number for number in left.values() if number != 0], [])

    def check_apart(self, program, book, slope, apart):
        powers = [term[0] for term in apart.terms]
        self.assertEqual(list(apart.terms), sorted(apart.terms))
        self.assertEqual(len(powers), len(set(powers)))
        for own, number in apart.terms:
            self.assertEqual((type(number), len(own)), (int, program.entries))
            self.assertNotEqual(number, 0)
        for poly in answer_polys(program, book):
            self.assertEqual(made(apart.terms, poly), 0)
        self.assertNotEqual(made(apart.terms, slope), 0)

    def test_weights_or_terms_apart(self):
        chance = random.Random(321)
        kinds = set()
        for program in [*PROGRAMS, GONE]:
            for _ in range(2):
                book = random_book(chance, full_mould(program), 3, 2)
                result, entry = chance.randrange(len(program.results)), chance.randrange(program.entries)
                slope = slope_polys(program)[result][entry]
                found = self.taken(told_always, program, list(book), result, entry)
                kinds.add(type(found))
                if isinstance(found, Weights):
                    self.check_weights(program, book, slope, found)
                else:
                    self.assertIsInstance(found, Apart)
                    self.check_apart(program, book, slope, found)
        self.assertEqual(kinds, {Weights, Apart})

    def test_what_moulds_tell_is_told_always(self):
        chance = random.Random(322)
        steps = set()
        for program in [*PROGRAMS, GONE]:
            book = random_book(chance, full_mould(program), 2, 1)
            free, shared = program_mould(program), program_mould(program, shared=True)
            for row, column in free.cells:
                told = [free.letter_at(row, column) in told_letters(free, book),
                        shared.letter_at(row, column) in told_letters(shared, book),
                        isinstance(told_always(program, book, row, column), Weights)]
                self.assertEqual(told, sorted(told))
                steps.add(tuple(told))
        self.assertGreaterEqual(steps, {(True, True, True), (False, True, True), (False, False, False)})

    def test_a_place_that_no_mould_tells_may_be_told_always(self):
        # The slopes are 1 and 2: unlike Polys, whose sum tells both.
        linear = Program(2, [("plus", 1, 1), ("plus", 0, 2)], (3,))
        self.same(slope_polys(linear)[0], (Poly(2, [((0, 0), 1)]), Poly(2, [((0, 0), 2)])))
        book = [("column", (1, 1))]
        for mould in (program_mould(linear), program_mould(linear, shared=True)):
            self.assertEqual(told_letters(mould, book), ())
        self.same(told_always(linear, book, 0, 0), Weights(((1, 3),)))
        self.same(told_always(linear, book, result=0, entry=1), Weights(((2, 3),)))

    def test_slopes_that_are_always_0(self):
        self.same(told_always(GONE, [], 0, 0), Weights(()))
        self.same(told_always(GONE, [("row", (0, 0, 0))], 0, 1), Weights((ZERO, ZERO)))
        self.same(told_always(GONE, [], 1, 0), Apart((((0, 1), 1),)))
        self.assertIsInstance(told_always(GONE, [("column", (1, 1))], 1, 0), Apart)

    def test_errors(self):
        wrong = [(1, wrong_books(SHAPE)), (2, wrong_results(SMALL)), (3, wrong_entries(SMALL))]
        self.refuses_in_order(told_always, (SMALL, (), 0, 0), wrong)

    def test_great_programs(self):
        chance = random.Random(323)
        program = great_program()
        for many in (1, 4):
            book = [("column", random_values(chance, 4, HIGH)) for _ in range(many)]
            slope = slope_polys(program)[0][1]
            found = told_always(program, book, 0, 1)
            if isinstance(found, Weights):
                self.check_weights(program, book, slope, found)
            else:
                self.check_apart(program, book, slope, found)
        some = random_program(chance, 4, 99, 6)
        self.assertEqual(len(table_by_runs(some, (1, 2, 3, 4), book).rows), 6)
