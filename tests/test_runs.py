import itertools
import random

from tests.helper import Case
from tests.test_polys import wrong_values
from tests.test_programs import EXAMPLE, HIGH, PROGRAMS, SMALL, great_program, random_program, random_values
from thinslopes.errors import BadAlong, TooGreat
from thinslopes.programs import Program, result_numbers, spot_numbers, spot_polys
from thinslopes.runs import Run, backward_program, backward_run, forward_program, forward_run
from thinslopes.slopes import table_at

# Programs of at most 10 steps.
SHORT = [program for program in PROGRAMS if len(program.steps) <= 10]


def times_column(table, column):
    return tuple(sum(ratio[0] * number for ratio, number in zip(row, column)) for row in table)


def row_times(row, table):
    return tuple(sum(number * line[at][0] for number, line in zip(row, table)) for at in range(len(table[0])))


def sides_of(program, numbers):
    """A triple for each step and side: the spot of the step, the spot that it reads, and the factor of the couple."""
    found = []
    for at, step in enumerate(program.steps):
        if step[0] != "number":
            for side in (0, 1):
                factor = numbers[step[2 - side]] if step[0] == "times" else 1
                if step[0] == "less" and side == 1:
                    factor = -1
                found.append((program.entries + at, step[1 + side], factor))
    return found


class ForwardRunTest(Case):
    """Point 9.9: forward_run."""

    def test_the_slopes_of_all_spots(self):
        chance = random.Random(301)
        for program in PROGRAMS:
            polys = spot_polys(program)
            for greatest in (3, HIGH):
                values = random_values(chance, program.entries, greatest)
                column = random_values(chance, program.entries, greatest)
                run = self.taken(forward_run, program, list(values), list(column))
                self.assertIsInstance(run, Run)
                self.same(run.spots, spot_numbers(program, values))
                right = tuple(sum(poly.slope_by(entry).value_at(values) * number
                                  for entry, number in enumerate(column)) for poly in polys)
                self.same(run.slopes, right)
                self.same(run.answer, tuple(right[spot] for spot in program.results))
                self.same(run.answer, times_column(table_at(program, values), column))
                self.same(run.products, 3 * program.times_many)

    def test_examples(self):
        self.gives(Run((3, 4, 12, 12, 0, 7, 49, 49), (1, 0, 4, 4, 0, 1, 14, 14), (14,), 9),
                   forward_run, EXAMPLE, (3, 4), (1, 0))
        self.gives(Run((5,), (-7,), (-7,), 0), forward_run, column=[-7], values=[5], program=Program(1, (), (0,)))
        self.gives(Run((2, 3, 3, -1, 6, 5), (1, 1, 0, 1, 5, 6), (6, 1, 5), 3), forward_run, SMALL, (2, 3), (1, 1))

    def test_errors(self):
        wrong = [(1, wrong_values(2)), (2, wrong_values(2, BadAlong))]
        self.refuses_in_order(forward_run, (SMALL, (0, 0), (0, 0)), wrong)


class BackwardRunTest(Case):
    """Point 9.9: backward_run."""

    def test_the_slopes_of_all_spots(self):
        chance = random.Random(302)
        for program in PROGRAMS:
            for greatest in (3, HIGH):
                values = random_values(chance, program.entries, greatest)
                row = random_values(chance, len(program.results), greatest)
                run = self.taken(backward_run, program, values, list(row))
                numbers = spot_numbers(program, values)
                self.same(run.spots, numbers)
                self.assertEqual(len(run.slopes), program.spots_many)
                sides = sides_of(program, numbers)
                for spot, slope in enumerate(run.slopes):
                    own = sum(number for result, number in zip(program.results, row) if result == spot)
                    read = sum(run.slopes[step] * factor for step, at, factor in sides if at == spot)
                    self.assertEqual(slope, own + read)
                self.same(run.answer, run.slopes[:program.entries])
                self.same(run.answer, row_times(row, table_at(program, values)))
                self.same(run.products, 3 * program.times_many)

    def test_examples(self):
        self.gives(Run((3, 4, 12, 12, 0, 7, 49, 49), (14, 14, 1, -1, 1, 14, 1, 1), (14, 14), 9),
                   backward_run, EXAMPLE, [3, 4], [1])
        # A result that is an entry, and results that repeat.
        self.gives(Run((5,), (6,), (6,), 0), backward_run, row=[1, 2, 3], values=[5], program=Program(1, (), (0,) * 3))
        right = Run((2, 3, 3, -1, 6, 5), (31, 22, -1, 1, 10, 1), (31, 22), 3)
        self.gives(right, backward_run, SMALL, (2, 3), (1, 2, 9))

    def test_the_row_times_the_forward_answer_is_the_backward_answer_times_the_column(self):
        chance = random.Random(303)
        for program in [*PROGRAMS, great_program()]:
            values = random_values(chance, program.entries, HIGH)
            column = random_values(chance, program.entries, HIGH)
            row = random_values(chance, len(program.results), HIGH)
            forward = forward_run(program, values, column).answer
            backward = backward_run(program, values, row).answer
            self.assertEqual(sum(one * other for one, other in zip(row, forward)),
                             sum(one * other for one, other in zip(backward, column)))

    def test_no_steps_and_99_steps(self):
        doubled = Program(1, [("plus", at, at) for at in range(99)], (99,))
        self.assertEqual(forward_run(doubled, [3], [5]).answer, (5 * 2 ** 99,))
        self.assertEqual(backward_run(doubled, [3], [5]).slopes, tuple(5 * 2 ** (99 - at) for at in range(100)))
        self.assertEqual(forward_run(great_program(), (1, 2, 3, 4), (1, 0, 0, 0)).products,
                         3 * great_program().times_many)

    def test_errors(self):
        wrong = [(1, wrong_values(2)), (2, wrong_values(3, BadAlong))]
        self.refuses_in_order(backward_run, (SMALL, (0, 0), (0, 0, 0)), wrong)


class DerivedProgramsTest(Case):
    """Point 9.10."""

    def check_derived(self, program, derived, along, run):
        chance = random.Random(304)
        self.assertIsInstance(derived, Program)
        self.assertEqual(derived.entries, program.entries)
        self.assertLessEqual(derived.times_many, 3 * program.times_many)
        # At all values: the Polys of the results are those of the answers.
        for greatest in (2, 5, HIGH):
            values = random_values(chance, program.entries, greatest)
            self.same(result_numbers(derived, values), run(program, values, along).answer)

    def answers_as_polys(self, program, derived, column=None, row=None):
        polys = spot_polys(program)
        table = [[polys[spot].slope_by(entry) for entry in range(program.entries)] for spot in program.results]
        found = [spot_polys(derived)[spot] for spot in derived.results]
        lines = table if row is None else list(zip(*table))
        for line, poly in zip(lines, found):
            for slope, number in zip(line, column or row):
                for powers, times in slope.terms:
                    poly = poly - type(poly)(poly.many, [(powers, times * number)])
            self.assertEqual(poly.terms, ())
        self.assertEqual(len(lines), len(found))

    def test_forward(self):
        chance = random.Random(305)
        for program in SHORT:
            for greatest in (3, HIGH):
                column = random_values(chance, program.entries, greatest)
                derived = self.taken(forward_program, program, list(column))
                self.assertEqual(len(derived.results), len(program.results))
                self.check_derived(program, derived, column, forward_run)
                self.answers_as_polys(program, derived, column=column)

    def test_backward(self):
        chance = random.Random(306)
        for program in SHORT:
            for greatest in (3, HIGH):
                row = random_values(chance, len(program.results), greatest)
                derived = self.taken(backward_program, program, list(row))
                self.assertEqual(len(derived.results), program.entries)
                self.check_derived(program, derived, row, backward_run)
                self.answers_as_polys(program, derived, row=row)

    def test_programs_of_the_grade_6(self):
        """The slopes of a program of the grade 6 have no greater grade, whatever they read."""
        chance = random.Random(307)
        sixth = Program(2, [("times", 0, 1), ("times", 2, 2), ("times", 3, 2), ("plus", 4, 0), ("less", 1, 5)], (6, 4))
        wide = [sixth]
        for _ in range(30):
            program = random_program(chance, chance.randint(1, 4), 10, 6, ("times", "times", "less", "number"))
            wide.append(program)
        self.assertTrue(any(max(sum(powers) for poly in spot_polys(program) for powers, _ in poly.terms or [((0,), 1)])
                            == 6 for program in wide))
        for program in wide:
            column = random_values(chance, program.entries)
            self.check_derived(program, forward_program(program, column), column, forward_run)
            row = random_values(chance, len(program.results))
            self.check_derived(program, backward_program(program, row), row, backward_run)

    def test_numbers_that_add_up_to_more_than_a_step_may_have(self):
        program = Program(1, (), (0,) * 6)
        for row in ((HIGH,) * 6, (-HIGH,) * 6):
            self.gives((6 * row[0],), result_numbers, backward_program(program, row), (1,))
        self.gives((HIGH,) * 6, result_numbers, forward_program(program, [HIGH]), (7,))

    def test_ten_and_eleven_steps(self):
        for words in (("times",), ("plus",), ("less",), ("number",)):
            for many in (10, 11, 99):
                steps = [(word, 0, 0) if word != "number" else (word, 1) for word in words * many]
                program = Program(4, steps, (13, 12, 11, 10, 5, 0))
                calls = [(forward_program, (1, -2, 3, HIGH)), (backward_program, [1, 2, 3, 4, 5, -HIGH])]
                for (derive, along), run in zip(calls, (forward_run, backward_run)):
                    if many == 10:
                        self.check_derived(program, derive(program, along), along, run)
                    else:
                        self.refuses(TooGreat(many), derive, program, along)

    def test_errors(self):
        long = Program(2, [("plus", 0, 1)] * 11, (12, 2, 0))
        greats = (0, [(long, TooGreat(11))])
        self.refuses_in_order(forward_program, (SMALL, (0, 0)), [(1, wrong_values(2, BadAlong))])
        self.refuses_in_order(forward_program, (long, (0, 0)), [(1, wrong_values(2, BadAlong)), greats])
        self.refuses_in_order(backward_program, (SMALL, (0,) * 3), [(1, wrong_values(3, BadAlong))])
        self.refuses_in_order(backward_program, (long, (0,) * 3), [(1, wrong_values(3, BadAlong)), greats])

    def test_derived_programs_may_be_derived(self):
        """The forward answer of the backward program is a column of second slopes, alike on both sides."""
        program = Program(2, [("times", 0, 1), ("times", 2, 0)], (3,))
        first = backward_program(program, (1,))
        chance = random.Random(308)
        for _ in range(5):
            values = random_values(chance, 2)
            table = table_at(first, values)
            self.assertEqual(table[0][1], table[1][0])
        self.assertEqual(list(itertools.chain(*table_at(first, (3, 5)))), [(10, 1), (6, 1), (6, 1), (0, 1)])
