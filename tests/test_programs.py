import random

from tests.helper import Case, not_sequences, not_wholes
from tests.test_polys import wrong_values
from thinslopes.errors import BadChain, BadProgram
from thinslopes.polys import Poly
from thinslopes.programs import Program, chained_program, result_numbers, spot_numbers, spot_polys

HIGH = 10 ** 9
# The example of point 9.16.
EXAMPLE = Program(2, (("times", 0, 1), ("times", 0, 1), ("less", 2, 3), ("plus", 0, 1), ("times", 5, 5), (
    "plus", 4, 6)), (7,))
# Entries x and y; steps x - 3, x times y, and the last two added.
SMALL = Program(2, (("number", 3), ("less", 0, 2), ("times", 0, 1), ("plus", 3, 4)), (5, 1, 4))


def random_program(chance, entries, steps_many, results_many=None, words=("plus", "less", "times", "number")):
    grades = [1] * entries
    steps = []
    while len(steps) < steps_many:
        word = chance.choice(words)
        if word == "number":
            step, grade = (word, chance.choice((0, 1, 2, -3, 5))), 1
        else:
            step = (word, chance.randrange(len(grades)), chance.randrange(len(grades)))
            both = (grades[step[1]], grades[step[2]])
            grade = sum(both) if word == "times" else max(both)
        if grade <= 6:
            steps.append(step)
            grades.append(grade)
    many = chance.randint(1, 6) if results_many is None else results_many
    return Program(entries, steps, [chance.randrange(len(grades)) for _ in range(many)])


def some_programs():
    chance = random.Random(281)
    found = [EXAMPLE, SMALL, Program(1, (), (0,)), Program(4, (), (3, 3, 0, 0, 1, 2))]
    for entries in range(1, 5):
        for steps in (0, 1, 2, 4, 7, 9):
            for _ in range(3):
                found.append(random_program(chance, entries, steps))
    return found


PROGRAMS = some_programs()


def random_values(chance, many, greatest=5):
    return tuple(chance.randint(-greatest, greatest) for _ in range(many))


def great_program(entries=4):
    """A program of 99 steps whose last ones have the grade 6."""
    steps = [("plus", 0, entries - 1), ("number", 7), ("plus", entries, entries + 1)]
    last = entries + 2
    for at in range(entries):
        steps.append(("plus", last, at))
        last = entries + len(steps) - 1
    steps += [("times", last, last), ("times", last + 1, last)]
    cube = last + 2
    while len(steps) < 97:
        spot = entries + len(steps) - 1
        steps.append(("times", cube, cube) if len(steps) % 2 else ("plus", spot, cube))
    spot = entries + len(steps) - 1
    steps += [("plus", spot, spot - 1), ("less", spot + 1, cube)]
    return Program(entries, steps, [spot + 2, spot + 1, spot, spot - 1, cube, 0])


class ProgramTest(Case):
    """Point 9.3."""

    def test_attributes_and_properties(self):
        program = self.taken(Program, 2, [["times", 0, 1], ("number", -4), ["plus", 2, 2]], [4, 0, 4])
        self.same((program.entries, program.steps, program.results), (
            2, (("times", 0, 1), ("number", -4), ("plus", 2, 2)), (4, 0, 4)))
        self.same((program.spots_many, program.times_many), (5, 1))
        self.same((EXAMPLE.spots_many, EXAMPLE.times_many), (8, 3))
        none = Program(results=(0,), steps=(), entries=1)
        self.same((none.spots_many, none.times_many, none.steps), (1, 0, ()))
        for program in PROGRAMS:
            self.assertEqual(program.spots_many, program.entries + len(program.steps))
            self.assertEqual(program.times_many, [step[0] for step in program.steps].count("times"))

    def test_later_changes_have_no_effect(self):
        steps, results = [["times", 0, 0]], [1]
        program = Program(1, steps, results)
        steps[0][0] = "plus"
        steps.append(None)
        results.append(7)
        self.same((program.steps, program.results), ((("times", 0, 0),), (1,)))

    def test_entries(self):
        for thing in [*not_wholes(), 0, -1, 5]:
            self.refuses(BadProgram("entries", 0), Program, thing, None, None)
        for entries in range(1, 5):
            self.assertEqual(Program(entries, (), (entries - 1,)).entries, entries)

    def test_many(self):
        for thing in not_sequences():
            self.refuses(BadProgram("many", 0), Program, 1, thing, (0,))
        self.assertEqual(len(Program(1, [("plus", 0, 0)] * 99, (99,)).steps), 99)
        self.refuses(BadProgram("many", 0), Program, 1, [("plus", 0, 0)] * 100, (0,))
        self.refuses(BadProgram("many", 0), Program, 1, [None] * 100, None)

    def test_step(self):
        wrong = [*not_sequences(), (), ("plus",), ("plus", 0), ("times", 0, 0, 0), ("number",), ("number", 1, 1),
                 ("minus", 0, 0), ("Plus", 0, 0), (b"plus", 0, 0), (None, 0, 0), (["plus"], 0, 0), ("sum", 0)]
        for spot in [*not_wholes(), -1, 3]:
            wrong += [("plus", spot, 0), ["less", 0, spot], ("times", spot, spot)]
        for thing in wrong:
            self.refuses(BadProgram("step", 1), Program, 2, [("plus", 0, 1), thing], (0,))
        # A step reads spots below its own.
        self.refuses(BadProgram("step", 0), Program, 1, [("plus", 0, 1)], (0,))
        self.same(Program(1, [("plus", 0, 0), ("plus", 1, 1)], (2,)).steps[1], ("plus", 1, 1))

    def test_number(self):
        for thing in [*not_wholes(), HIGH + 1, -HIGH - 1]:
            self.refuses(BadProgram("number", 1), Program, 1, (("number", HIGH), ["number", thing]), (0,))
        self.same(Program(1, [("number", -HIGH)], (1,)).steps, (("number", -HIGH),))

    def test_grade(self):
        # The grades of the spots behind the entry are 2, 4, 6 and 7.
        steps = [("times", 0, 0), ("times", 1, 1), ("times", 2, 1)]
        self.assertEqual(Program(1, steps, (3,)).times_many, 3)
        self.refuses(BadProgram("grade", 3), Program, 1, [*steps, ("times", 3, 0)], (0,))
        self.refuses(BadProgram("grade", 5), Program, 1, [
            *steps, ("number", 1), ("less", 3, 4), ("times", 4, 5)], (0,))
        # Of plus and less the greater one counts; a number has the grade 1.
        for word in ("plus", "less"):
            for spots in ((2, 0), (0, 2)):
                more = Program(1, [*steps[:2], (word, *spots), ("times", 3, 1)], (4,))
                self.assertEqual(more.spots_many, 5)
                self.refuses(BadProgram("grade", 3), Program, 1, [*steps[:2], (word, *spots), ("times", 3, 3)], (4,))
        numbers = [("number", 0), ("times", 1, 1), ("times", 2, 2), ("times", 3, 2)]
        self.assertEqual(Program(1, numbers, (4,)).times_many, 3)
        self.refuses(BadProgram("grade", 4), Program, 1, [*numbers, ("times", 4, 1)], (0,))

    def test_results(self):
        for thing in [*not_sequences(), (), [], [0] * 7]:
            self.refuses(BadProgram("results", 0), Program, 1, (), thing)
        self.same(Program(1, (), [0] * 6).results, (0,) * 6)
        for thing in [*not_wholes(), -1, 3]:
            self.refuses(BadProgram("result", 0), Program, 2, [("plus", 0, 1)], [thing])
            self.refuses(BadProgram("result", 2), Program, 2, [("plus", 0, 1)], (2, 0, thing, None))

    def test_two_wrong_things_at_once(self):
        self.refuses(BadProgram("step", 0), Program, 1, [("number", None, 1), None], ())
        self.refuses(BadProgram("number", 0), Program, 1, [("number", None), None], ())
        self.refuses(BadProgram("grade", 2), Program, 1, [
            ("times", 0, 0), ("times", 1, 1), ("times", 2, 2), None], ())
        self.refuses(BadProgram("step", 2), Program, 1, [("times", 0, 0), ("times", 1, 1), ("times", 2, 3)], ())

    def test_equal_programs(self):
        one = Program(2, [("plus", 0, 1)], [2])
        self.assertTrue(one == Program(2, (["plus", 0, 1],), (2,)))
        self.assertFalse(one != Program(2, (["plus", 0, 1],), (2,)))
        others = [Program(3, [("plus", 0, 1)], [2]), Program(2, [("less", 0, 1)], [2]), Program(2, [("plus", 0, 1)], [
            0]), Program(2, [("plus", 0, 1)], [2, 2]), None, (2, (("plus", 0, 1),), (2,))]
        for other in others:
            self.assertFalse(one == other)
            self.assertTrue(one != other)


class NumbersTest(Case):
    """Point 9.4."""

    def expected(self, program, values):
        numbers = list(values)
        for step in program.steps:
            if step[0] == "number":
                numbers.append(step[1])
            else:
                one, other = numbers[step[1]], numbers[step[2]]
                numbers.append({"plus": one + other, "less": one - other, "times": one * other}[step[0]])
        return tuple(numbers)

    def test_numbers_and_polys(self):
        chance = random.Random(282)
        for program in PROGRAMS:
            polys = self.taken(spot_polys, program)
            self.assertEqual(len(polys), program.spots_many)
            self.assertTrue(all(poly.many == program.entries for poly in polys))
            for greatest in (2, 9, HIGH):
                values = random_values(chance, program.entries, greatest)
                numbers = self.expected(program, values)
                self.gives(numbers, spot_numbers, program, list(values))
                self.gives(tuple(numbers[spot] for spot in program.results), result_numbers, program, values)
                self.same(tuple(poly.value_at(values) for poly in polys), numbers)

    def test_examples(self):
        self.gives((3, 4, 12, 12, 0, 7, 49, 49), spot_numbers, EXAMPLE, (3, 4))
        self.gives((49,), result_numbers, values=[3, 4], program=EXAMPLE)
        self.same([poly.terms for poly in spot_polys(SMALL)], [
            (((1, 0), 1),), (((0, 1), 1),), (((0, 0), 3),), (((0, 0), -3), ((1, 0), 1)), (((1, 1), 1),),
            (((0, 0), -3), ((1, 0), 1), ((1, 1), 1))])
        self.assertTrue(spot_polys(EXAMPLE)[4] == Poly(2, []))

    def test_values_at_the_bounds(self):
        sixth = Program(1, [("times", 0, 0), ("times", 1, 1), ("times", 2, 1)], (3,))
        self.gives((HIGH ** 6,), result_numbers, sixth, [-HIGH])
        self.gives((HIGH ** 6,), result_numbers, sixth, [HIGH])

    def test_no_steps_and_99_steps(self):
        self.gives((5,), spot_numbers, Program(1, (), (0,)), [5])
        doubled = Program(1, [("plus", at, at) for at in range(99)], (99,))
        self.gives((-3 * 2 ** 99,), result_numbers, doubled, [-3])
        self.assertTrue(spot_polys(doubled)[99] == Poly(1, [((1,), 2 ** 99)]))
        great = great_program()
        self.assertEqual((len(great.steps), great.times_many > 40), (99, True))
        values = (3, -2, 5, 1)
        self.same(tuple(poly.value_at(values) for poly in spot_polys(great)), spot_numbers(great, values))

    def test_wrong_values(self):
        for call in (spot_numbers, result_numbers):
            self.refuses_in_order(call, (SMALL, (0, 0)), [(1, wrong_values(2))])


class ChainedProgramTest(Case):
    """Point 9.5."""

    def test_the_results_of_the_first_are_the_entries_of_the_second(self):
        chance = random.Random(283)
        checked = 0
        for first in PROGRAMS:
            if len(first.results) > 4:
                self.refuses(BadChain(), chained_program, first, SMALL)
                continue
            for steps in (0, 2, 5):
                second = random_program(chance, len(first.results), steps, words=("plus", "less", "number"))
                chained = self.taken(chained_program, first, second)
                self.assertIsInstance(chained, Program)
                self.same((chained.entries, chained.steps[:len(first.steps)]), (first.entries, first.steps))
                self.assertEqual(len(chained.steps), len(first.steps) + steps)
                self.assertEqual([step[0] for step in chained.steps[len(first.steps):]], [
                    step[0] for step in second.steps])
                for _ in range(3):
                    values = random_values(chance, first.entries)
                    right = result_numbers(second, result_numbers(first, values))
                    self.same(result_numbers(chained, values), right)
                checked += 1
        self.assertGreater(checked, 60)

    def test_an_example(self):
        second = Program(3, [("number", 2), ("times", 0, 3), ("less", 4, 2)], (5, 1, 3, 0))
        right = Program(2, (*SMALL.steps, ("number", 2), ("times", 5, 6), ("less", 7, 4)), (8, 1, 6, 5))
        self.assertTrue(chained_program(SMALL, second) == right)
        self.assertTrue(chained_program(second=Program(1, (), (0, 0)), first=EXAMPLE) == Program(
            2, EXAMPLE.steps, (7, 7)))

    def test_errors(self):
        for second in (Program(1, (), (0,)), Program(2, (), (0,)), Program(4, (), (0,))):
            self.refuses(BadChain(), chained_program, SMALL, second)
        long = Program(1, [("plus", 0, 0)] * 60, (60,))
        self.refuses(BadProgram("many", 0), chained_program, long, Program(1, [("plus", 0, 0)] * 40, (0,)))
        self.assertEqual(len(chained_program(long, Program(1, [("plus", 0, 0)] * 39, (0,))).steps), 99)
        fourth = Program(1, [("times", 0, 0), ("times", 1, 1)], (2,))
        self.refuses(BadProgram("grade", 2), chained_program, fourth, fourth)
        self.refuses(BadChain(), chained_program, long, Program(2, [("plus", 0, 0)] * 40, (0,)))
