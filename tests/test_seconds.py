import itertools
import random

from tests.helper import Case, numberings, wrong_groupings
from tests.test_polys import wrong_values
from tests.test_programs import EXAMPLE, HIGH, PROGRAMS, SMALL, great_program, random_program, random_values
from tests.test_runs import sides_of
from tests.test_slopes import GONE, reached, wrong_results
from thinslopes.errors import BadAlong
from thinslopes.gained import RunTable
from thinslopes.groupings import book_of
from thinslopes.polys import Poly
from thinslopes.programs import Program, result_numbers, spot_numbers, spot_polys
from thinslopes.runs import backward_run, forward_run
from thinslopes.seconds import (
    Bent, Parts, bent_run, bent_table, program_web, result_parts, second_at, second_polys, web_by_steps,
)
from thinslopes.slopes import shown_at, table_at
from thinslopes.told import told_letters
from thinslopes.webs import Web

ZERO = (0, 1)


def results_of(program):
    return range(len(program.results))


class SecondPolysTest(Case):
    """Point 9.13: second_polys and second_at."""

    def test_slopes_of_slopes(self):
        chance = random.Random(331)
        for program in PROGRAMS:
            for result in results_of(program):
                poly = spot_polys(program)[program.results[result]]
                found = self.taken(second_polys, program, result)
                self.assertEqual([len(line) for line in found], [program.entries] * program.entries)
                for one, other in itertools.product(range(program.entries), repeat=2):
                    self.assertTrue(found[one][other] == poly.slope_by(one).slope_by(other))
                    self.assertTrue(found[one][other] == found[other][one])
                for greatest in (3, HIGH):
                    values = random_values(chance, program.entries, greatest)
                    right = tuple(tuple((second.value_at(values), 1) for second in line) for line in found)
                    self.gives(right, second_at, program, list(values), result)

    def test_examples(self):
        self.gives((((2, 1), (2, 1)), ((2, 1), (2, 1))), second_at, EXAMPLE, (3, 4), 0)
        self.gives(((ZERO, (1, 1)), ((1, 1), ZERO)), second_at, result=2, values=[5, 6], program=SMALL)
        self.gives(((ZERO,),), second_at, Program(1, (), (0,)), [9], 0)

    def test_errors(self):
        self.refuses_in_order(second_polys, (SMALL, 0), [(1, wrong_results(SMALL))])
        self.refuses_in_order(second_at, (SMALL, (0, 0), 0), [(1, wrong_values(2)), (2, wrong_results(SMALL))])


def meets_at(program, spot):
    """The ties that meet at a spot, by the words of point 9.13."""
    if spot < program.entries or program.steps[spot - program.entries][0] == "number":
        return set()
    word, one, other = program.steps[spot - program.entries]
    found = meets_at(program, one) | meets_at(program, other)
    if word == "times":
        for first, second in itertools.product(range(program.entries), repeat=2):
            if one in reached(program, first) and other in reached(program, second):
                found.add((min(first, second), max(first, second)))
    return found


class WebsTest(Case):
    """Point 9.13: program_web and web_by_steps."""

    def test_ties_where_second_slopes_are_not_0(self):
        chance = random.Random(332)
        more = 0
        plain = [random_program(chance, 3, 7, 4, ("plus", "times")) for _ in range(8)]
        for program in [*PROGRAMS, GONE, *plain]:
            for result in results_of(program):
                polys = second_polys(program, result)
                ties = [(one, other) for one in range(program.entries) for other in range(one, program.entries)
                        if polys[one][other].terms]
                web = self.taken(program_web, program, result)
                self.same(web, Web(program.entries, ties))
                steps = self.taken(web_by_steps, program, result)
                self.same(steps, Web(program.entries, sorted(meets_at(program, program.results[result]))))
                self.assertLessEqual(set(web), set(steps))
                more += len(web) < len(steps)
                if all(step[0] != "less" and (step[0] != "number" or step[1] >= 1) for step in program.steps):
                    self.same(steps, web)
        self.assertGreater(more, 3)

    def test_examples(self):
        self.gives(Web(2, [(0, 0), (0, 1), (1, 1)]), program_web, EXAMPLE, 0)
        self.gives(Web(2, [(0, 0), (0, 1), (1, 1)]), web_by_steps, EXAMPLE, 0)
        self.gives(Web(2, [(0, 1)]), program_web, result=0, program=SMALL)
        self.gives(Web(2, []), program_web, GONE, 0)
        self.gives(Web(2, [(0, 1)]), web_by_steps, result=0, program=GONE)
        self.gives(Web(1, []), web_by_steps, Program(1, (), (0,)), 0)
        # (x + y)(y + z) has no x z by the sums alone, but by the product.
        program = Program(3, [("plus", 0, 1), ("plus", 1, 2), ("times", 3, 4)], (5, 3))
        self.gives(Web(3, [(0, 1), (0, 2), (1, 1), (1, 2)]), web_by_steps, program, 0)
        self.gives(Web(3, []), web_by_steps, program, 1)

    def test_errors(self):
        for call in (program_web, web_by_steps):
            self.refuses_in_order(call, (SMALL, 0), [(1, wrong_results(SMALL))])


class BentRunTest(Case):
    """Point 9.14: bent_run."""

    def test_what_it_holds(self):
        chance = random.Random(333)
        for program in PROGRAMS:
            for result in results_of(program):
                values = random_values(chance, program.entries, 9)
                column = random_values(chance, program.entries, 9)
                bent = self.taken(bent_run, program, list(values), result, list(column))
                self.assertIsInstance(bent, Bent)
                row = [int(at == result) for at in results_of(program)]
                self.same(bent.spots, spot_numbers(program, values))
                self.same(bent.along, forward_run(program, values, column).slopes)
                self.same(bent.back, backward_run(program, values, row).slopes)
                self.check_bends(program, bent)
                self.same(bent.answer, bent.bends[:program.entries])
                table = second_at(program, values, result)
                self.same(bent.answer, tuple(
                    sum(ratio[0] * number for ratio, number in zip(line, column)) for line in table))
                self.same(bent.products, 9 * program.times_many)

    def check_bends(self, program, bent):
        sides = sides_of(program, bent.spots)
        self.assertEqual(len(bent.bends), program.spots_many)
        for spot, bend in enumerate(bent.bends):
            total = sum(bent.bends[step] * factor for step, at, factor in sides if at == spot)
            for at, step in enumerate(program.steps):
                for side in (0, 1):
                    if step[0] == "times" and step[1 + side] == spot:
                        total += bent.back[program.entries + at] * bent.along[step[2 - side]]
            self.assertEqual(bend, total)

    def test_values_and_columns_at_the_bounds(self):
        chance = random.Random(334)
        for program in [*PROGRAMS[:10], great_program()]:
            values = random_values(chance, program.entries, HIGH)
            column = random_values(chance, program.entries, HIGH)
            table = second_at(program, values, 0)
            self.same(bent_run(program, values, 0, column).answer, tuple(
                sum(ratio[0] * number for ratio, number in zip(line, column)) for line in table))

    def test_examples(self):
        self.gives(Bent((3, 4, 12, 12, 0, 7, 49, 49), (1, 0, 4, 4, 0, 1, 14, 14), (14, 14, 1, -1, 1, 14, 1, 1),
                        (2, 2, 0, 0, 0, 2, 0, 0), (2, 2), 27), bent_run, EXAMPLE, (3, 4), 0, (1, 0))
        self.gives(Bent((5,), (2,), (1,), (0,), (0,), 0), bent_run, column=[2], result=1, values=[5],
                   program=Program(1, (), (0, 0)))

    def test_errors(self):
        wrong = [(1, wrong_values(2)), (2, wrong_results(SMALL)), (3, wrong_values(2, BadAlong))]
        self.refuses_in_order(bent_run, (SMALL, (0, 0), 0, (0, 0)), wrong)


class BentTableTest(Case):
    """Point 9.14: bent_table."""

    def test_the_table_of_second_slopes(self):
        chance = random.Random(335)
        kinds = set()
        for program in PROGRAMS:
            for result in list(results_of(program))[:2]:
                web = program_web(program, result)
                for grouping in numberings(program.entries):
                    values = random_values(chance, program.entries)
                    found = self.taken(bent_table, program, list(values), result, list(grouping))
                    self.assertIsInstance(found, RunTable)
                    groups = max(grouping) + 1
                    self.same(found.products, 9 * program.times_many * groups)
                    told = told_letters(web.as_mould(), book_of(grouping))
                    for one, line in enumerate(second_at(program, values, result)):
                        for other, ratio in enumerate(line):
                            tie = web.tie_number(one, other)
                            right = ZERO if tie is None else ratio if tie in told else None
                            self.same(found.rows[one][other], right)
                            kinds.add((tie is None, right is None))
        self.assertEqual(len(kinds), 3)

    def test_examples(self):
        self.gives(RunTable((((2, 1), (2, 1)), ((2, 1), (2, 1))), 54), bent_table, EXAMPLE, (3, 4), 0, (0, 1))
        self.gives(RunTable(((None, None), (None, None)), 27), bent_table, EXAMPLE, (3, 4), 0, [0, 0])
        self.gives(RunTable(((ZERO, (1, 1)), ((1, 1), ZERO)), 9), bent_table, grouping=[0, 0], result=0, values=(3, 4),
                   program=SMALL)

    def test_errors(self):
        wrong = [(1, wrong_values(2)), (2, wrong_results(SMALL)), (3, wrong_groupings(2))]
        self.refuses_in_order(bent_table, (SMALL, (0, 0), 0, (0, 0)), wrong)


class ResultPartsTest(Case):
    """Point 9.15."""

    def pieces(self, web):
        """The pieces by ties between unlike points."""
        left = list(range(web.points))
        found = []
        while left:
            piece = {left[0]}
            for _ in range(web.points):
                for tie in web.ties:
                    if set(tie) & piece:
                        piece |= set(tie)
            found.append(tuple(sorted(piece)))
            left = [point for point in left if point not in piece]
        return found

    def test_parts_add_up_to_the_result(self):
        counts = set()
        for program in [*PROGRAMS, GONE, great_program()]:
            for result in results_of(program):
                poly = spot_polys(program)[program.results[result]]
                found = self.taken(result_parts, program, result)
                self.assertIsInstance(found, Parts)
                self.assertEqual(type(found.base), int)
                self.same(tuple(entries for entries, _ in found.lots), tuple(self.pieces(program_web(program, result))))
                total = Poly(program.entries, [((0,) * program.entries, found.base)])
                for entries, part in found.lots:
                    total = total + part
                    for powers, _ in part.terms:
                        ones = {entry for entry, power in enumerate(powers) if power > 0}
                        self.assertTrue(ones and ones <= set(entries))
                self.assertTrue(total == poly)
                counts.add(len(found.lots))
        self.assertEqual(counts, {1, 2, 3, 4})

    def test_examples(self):
        found = result_parts(SMALL, 0)
        self.same((found.base, [entries for entries, _ in found.lots]), (-3, [(0, 1)]))
        self.assertTrue(found.lots[0][1] == Poly(2, [((1, 0), 1), ((1, 1), 1)]))
        lone = result_parts(result=1, program=SMALL)
        self.same((lone.base, [(entries, part.terms) for entries, part in lone.lots]), (
            0, [((0,), ()), ((1,), (((0, 1), 1),))]))
        # 5 + w + x z + y y: y has a diagonal alone, so it is a piece by itself.
        program = Program(4, [("number", 5), ("times", 1, 3), ("times", 2, 2), ("plus", 4, 0), ("plus", 7, 5), (
            "plus", 8, 6)], (9,))
        found = result_parts(program, 0)
        self.same((found.base, [(entries, part.terms) for entries, part in found.lots]), (5, [
            ((0,), (((1, 0, 0, 0), 1),)), ((1, 3), (((0, 1, 0, 1), 1),)), ((2,), (((0, 0, 2, 0), 1),))]))

    def test_errors(self):
        self.refuses_in_order(result_parts, (SMALL, 0), [(1, wrong_results(SMALL))])


class ExampleTest(Case):
    """Point 9.16."""

    def test_it(self):
        self.same(EXAMPLE.steps, (("times", 0, 1), ("times", 0, 1), ("less", 2, 3), ("plus", 0, 1), ("times", 5, 5),
                                  ("plus", 4, 6)))
        self.same(spot_polys(EXAMPLE)[7].terms, (((0, 2), 1), ((1, 1), 2), ((2, 0), 1)))
        self.same(table_at(EXAMPLE, (3, 4)), (((14, 1), (14, 1)),))
        self.same(result_numbers(EXAMPLE, (3, 4)), (49,))
        self.assertIsNotNone(shown_at(EXAMPLE, 0, 0))
