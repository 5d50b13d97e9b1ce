import inspect
import itertools
import random

from tests.helper import Case, not_wholes
from tests.test_polys import wrong_values
from tests.test_programs import EXAMPLE, PROGRAMS, SMALL, great_program, random_program, random_values
from thinslopes.errors import NoEntry, NoResult
from thinslopes.moulds import Mould
from thinslopes.polys import Poly
from thinslopes.programs import Program, spot_numbers, spot_polys
from thinslopes.slopes import mould_by_steps, program_mould, shown_at, slope_polys, table_at, ways_of

# The difference of two alike products: by steps each entry reaches it, yet both slopes are the Poly 0.
GONE = Program(2, [("times", 0, 1), ("times", 1, 0), ("less", 2, 3)], (4, 2, 0))


def wrong_results(program):
    return [(thing, NoResult(thing)) for thing in [*not_wholes(), -1, len(program.results)]]


def wrong_entries(program):
    return [(thing, NoEntry(thing)) for thing in [*not_wholes(), -1, program.entries]]


def plain_ways(program, result, entry):
    """All ways of point 9.8, found from the result on backward."""
    def to(spot):
        if spot == entry:
            return [()]
        if spot < program.entries or program.steps[spot - program.entries][0] == "number":
            return []
        at = spot - program.entries
        return [(*way, (at, side)) for side in (0, 1) for way in to(program.steps[at][1 + side])]
    return sorted(to(program.results[result]))


def factor_of(program, numbers, couple):
    word, *spots = program.steps[couple[0]]
    if word == "times":
        return numbers[spots[1 - couple[1]]]
    return -1 if word == "less" and couple[1] == 1 else 1


def sum_of_ways(program, values, ways):
    numbers = spot_numbers(program, values)
    total = 0
    for way in ways:
        product = 1
        for couple in way:
            product *= factor_of(program, numbers, couple)
        total += product
    return total


def reached(program, entry):
    """The spots that an entry reaches, by point 9.7."""
    found = {entry}
    for at, step in enumerate(program.steps):
        if step[0] != "number" and set(step[1:]) & found:
            found.add(program.entries + at)
    return found


class SlopePolysTest(Case):
    """Point 9.6: slope_polys and table_at."""

    def test_the_slopes_of_the_results(self):
        for program in PROGRAMS:
            found = self.taken(slope_polys, program)
            polys = spot_polys(program)
            self.assertEqual([len(line) for line in found], [program.entries] * len(program.results))
            for line, spot in zip(found, program.results):
                for entry, poly in enumerate(line):
                    self.assertTrue(poly == polys[spot].slope_by(entry))

    def test_the_table_at_values(self):
        chance = random.Random(291)
        for program in PROGRAMS:
            for greatest in (2, 10 ** 9):
                values = random_values(chance, program.entries, greatest)
                right = tuple(tuple((poly.value_at(values), 1) for poly in line) for line in slope_polys(program))
                self.gives(right, table_at, program, list(values))

    def test_examples(self):
        self.gives((((14, 1), (14, 1)),), table_at, EXAMPLE, (3, 4))
        self.gives((((5, 1), (2, 1)), ((0, 1), (1, 1)), ((4, 1), (2, 1))), table_at, values=[2, 4], program=SMALL)
        self.gives((((1, 1),),), table_at, Program(1, (), (0,)), [0])
        doubled = Program(1, [("plus", at, at) for at in range(99)], (99,))
        self.gives((((2 ** 99, 1),),), table_at, doubled, [-10 ** 9])

    def test_wrong_values(self):
        self.refuses_in_order(table_at, (SMALL, (0, 0)), [(1, wrong_values(2))])


class ShownAtTest(Case):
    """Point 9.6: shown_at."""

    def test_values_that_show_a_place(self):
        kinds = set()
        for program in [*PROGRAMS, GONE, great_program()]:
            polys = slope_polys(program)
            for result, entry in itertools.product(range(len(polys)), range(program.entries)):
                values = self.taken(shown_at, program, result, entry)
                poly = polys[result][entry]
                kinds.add(values is None)
                self.assertIs(values is None, poly == Poly(program.entries, []))
                if values is not None:
                    self.assertEqual(len(values), program.entries)
                    self.assertTrue(all(type(value) is int and 0 <= value <= 6 for value in values))
                    self.assertNotEqual(poly.value_at(values), 0)
        self.assertEqual(kinds, {True, False})

    def test_slopes_that_are_0_at_many_values(self):
        # (x - 1)(x - 2)(x - 3)(x - 4)(x - 5) y, of the grade 6.
        steps = []
        for root in range(1, 6):
            steps += [("number", root), ("less", 0, 1 + len(steps) + 1)]
        spots = [3, 5, 7, 9, 11]
        last = 1
        for spot in spots:
            steps.append(("times", last, spot))
            last = 1 + len(steps)
        program = Program(2, steps, (last,))
        self.gives((0, 0), shown_at, program, 0, 1)
        values = shown_at(program, 0, 0)
        self.assertNotEqual(slope_polys(program)[0][0].value_at(values), 0)
        # The same but for x itself: x(x - 1) .. (x - 4) y by y is other than 0 from 5 on.
        steps[8:10] = [("number", 0), ("less", 0, 10)]
        program = Program(2, steps, (last,))
        self.assertGreater(shown_at(program, 0, 1)[0], 4)

    def test_errors(self):
        self.refuses_in_order(shown_at, (SMALL, 0, 0), [(1, wrong_results(SMALL)), (2, wrong_entries(SMALL))])


class ProgramMouldTest(Case):
    """Point 9.7."""

    def test_places_and_letters(self):
        shared_many = 0
        for program in [*PROGRAMS, GONE]:
            polys = slope_polys(program)
            cells = [(row, at) for row, line in enumerate(polys) for at, poly in enumerate(line) if poly.terms]
            free = self.taken(program_mould, program)
            self.same(free, Mould(len(polys), program.entries, cells))
            self.same(program_mould(program, shared=False), free)
            shared = self.taken(program_mould, program, shared=True)
            self.same(shared.cells, free.cells)
            for one, other in itertools.product(cells, repeat=2):
                alike = polys[one[0]][one[1]] == polys[other[0]][other[1]]
                self.assertIs(shared.letter_at(*one) == shared.letter_at(*other), alike)
            shared_many += not shared.free
        self.assertGreater(shared_many, 10)

    def test_examples(self):
        self.gives(Mould(1, 2, [(0, 0), (0, 1)]), program_mould, EXAMPLE)
        self.gives(Mould(1, 2, [(0, 0), (0, 1)], [0, 0]), program_mould, EXAMPLE, shared=True)
        self.gives(Mould(3, 2, [(1, 0), (1, 1), (2, 0)]), program_mould, program=GONE)
        self.gives(Mould(3, 2, [(0, 0), (0, 1), (1, 1), (2, 0), (2, 1)], [0, 1, 2, 3, 1]), program_mould, SMALL,
                   shared=True)
        for call in (lambda: program_mould(SMALL, True), lambda: program_mould(SMALL, False)):
            with self.assertRaises(TypeError):
                call()

    def test_places_by_steps(self):
        chance = random.Random(292)
        more = 0
        plain = [random_program(chance, 3, 7, 4, ("plus", "times")) for _ in range(8)]
        for program in [*PROGRAMS, GONE, *plain]:
            cells = [(row, entry) for row, spot in enumerate(program.results) for entry in range(program.entries)
                     if spot in reached(program, entry)]
            mould = Mould(len(program.results), program.entries, cells)
            self.gives(mould, mould_by_steps, program)
            places = program_mould(program)
            self.assertLessEqual(set(places), set(mould))
            more += len(places) < len(mould)
            steps = program.steps
            if all(step[0] != "less" and (step[0] != "number" or step[1] >= 1) for step in steps):
                self.same(places, mould)
        self.assertGreater(more, 3)
        self.gives(Mould(3, 2, [(0, 0), (0, 1), (1, 0), (1, 1), (2, 0)]), mould_by_steps, GONE)


class WaysOfTest(Case):
    """Point 9.8."""

    def test_all_ways_ascending(self):
        counts = set()
        for program in [*PROGRAMS, GONE]:
            for result, entry in itertools.product(range(len(program.results)), range(program.entries)):
                right = plain_ways(program, result, entry)
                self.same(self.taken(lambda *args: tuple(ways_of(*args)), program, result, entry), tuple(right))
                counts.add(min(len(right), 3))
        self.assertEqual(counts, {0, 1, 2, 3})

    def test_the_slope_is_the_sum_over_all_ways(self):
        chance = random.Random(293)
        for program in [*PROGRAMS, GONE]:
            values = random_values(chance, program.entries)
            table = table_at(program, values)
            for result, entry in itertools.product(range(len(program.results)), range(program.entries)):
                total = sum_of_ways(program, values, ways_of(program, result, entry))
                self.same(table[result][entry], (total, 1))

    def test_examples(self):
        self.same(list(ways_of(SMALL, 0, 0)), [((1, 0), (3, 0)), ((2, 0), (3, 1))])
        self.same(list(ways_of(program=SMALL, result=0, entry=1)), [((2, 1), (3, 1))])
        # A result that is the entry itself, and one that is another entry.
        self.same(list(ways_of(SMALL, 1, 1)), [()])
        self.same(list(ways_of(SMALL, 1, 0)), [])
        square = Program(1, [("times", 0, 0), ("less", 1, 1)], (2, 0))
        self.same(list(ways_of(square, 0, 0)), [
            ((0, 0), (1, 0)), ((0, 0), (1, 1)), ((0, 1), (1, 0)), ((0, 1), (1, 1))])
        self.same(list(ways_of(square, 1, 0)), [()])
        self.same(len(list(ways_of(EXAMPLE, 0, 0))), 4)

    def test_it_is_a_generator(self):
        self.assertTrue(inspect.isgeneratorfunction(ways_of))
        # The first ways come without all others, of which there are 2 ** 99 here.
        doubled = Program(1, [("plus", at, at) for at in range(99)], (99,))
        first = list(itertools.islice(ways_of(doubled, 0, 0), 2))
        self.same(first, [tuple((at, 0) for at in range(99)), (*[(at, 0) for at in range(98)], (98, 1))])

    def test_ways_that_do_not_lead_to_the_result_cost_nothing(self):
        steps = [("plus", 0, 0)] + [("plus", at, at) for at in range(2, 99)]
        program = Program(2, [("plus", 1, 1), *steps[1:]], (0, 2))
        self.same(list(ways_of(program, 0, 1)), [])
        self.same(list(ways_of(program, 1, 1)), [((0, 0),), ((0, 1),)])

    def test_errors(self):
        call = lambda *args: list(ways_of(*args))
        self.refuses_in_order(call, (SMALL, 0, 0), [(1, wrong_results(SMALL)), (2, wrong_entries(SMALL))])
