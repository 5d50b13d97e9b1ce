"""Programs of sums, differences and products: the numbers and the Polys of their spots."""

from thinslopes.asks import MOST_NUMBER
from thinslopes.errors import BadChain, BadProgram, NoResult
from thinslopes.polys import MOST_ENTRIES, Poly, check_values
from thinslopes.ratios import is_sequence, is_whole, unshared

WORDS = ("plus", "less", "times")
MOST_STEPS = 99
MOST_RESULTS = 6
MOST_GRADE = 6


def is_spot(thing, spots):
    return is_whole(thing, 0, spots - 1)


def is_step(thing, spots):
    """Tell whether a thing is a step behind so many spots, but for the number of a step "number"."""
    if not is_sequence(thing) or len(thing) not in (2, 3):
        return False
    if len(thing) == 2:
        return thing[0] == "number"
    return thing[0] in WORDS and is_spot(thing[1], spots) and is_spot(thing[2], spots)


def spots_read(step):
    return () if step[0] == "number" else step[1:]


def grade_of(step, grades):
    read = [grades[spot] for spot in spots_read(step)]
    return sum(read) if step[0] == "times" else max(read, default=1)


def checked_steps(entries, steps):
    if not is_sequence(steps) or len(steps) > MOST_STEPS:
        raise BadProgram("many", 0)
    grades = [1] * entries
    kept = []
    for index, step in enumerate(steps):
        if not is_step(step, len(grades)):
            raise BadProgram("step", index)
        if step[0] == "number" and not is_whole(step[1], -MOST_NUMBER, MOST_NUMBER):
            raise BadProgram("number", index)
        grades.append(grade_of(step, grades))
        if grades[-1] > MOST_GRADE:
            raise BadProgram("grade", index)
        kept.append(tuple(step))
    return tuple(kept)


def checked_results(spots, results):
    if not is_sequence(results) or not is_whole(len(results), 1, MOST_RESULTS):
        raise BadProgram("results", 0)
    for index, result in enumerate(results):
        if not is_spot(result, spots):
            raise BadProgram("result", index)
    return tuple(results)


class Program:
    def __init__(self, entries, steps, results):
        if not is_whole(entries, 1, MOST_ENTRIES):
            raise BadProgram("entries", 0)
        self.entries = entries
        self.steps = checked_steps(entries, steps)
        self.results = checked_results(entries + len(self.steps), results)

    @property
    def spots_many(self):
        return self.entries + len(self.steps)

    @property
    def times_many(self):
        return len([step for step in self.steps if step[0] == "times"])

    def __eq__(self, other):
        return (isinstance(other, Program) and self.entries == other.entries and self.steps == other.steps
                and self.results == other.results)


def check_result(program, result):
    if not is_whole(result, 0, len(program.results) - 1):
        raise NoResult(unshared(result))


def joined_by(word, one, other):
    """Return the sum, the difference or the product of two numbers or of two Polys."""
    if word == "plus":
        return one + other
    return one - other if word == "less" else one * other


def spot_numbers(program, values):
    numbers = list(check_values(program.entries, values))
    for step in program.steps:
        if step[0] == "number":
            numbers.append(step[1])
        else:
            numbers.append(joined_by(step[0], numbers[step[1]], numbers[step[2]]))
    return tuple(numbers)


def result_numbers(program, values):
    numbers = spot_numbers(program, values)
    return tuple([numbers[spot] for spot in program.results])


def entry_poly(entries, entry):
    return Poly(entries, [(tuple([1 if at == entry else 0 for at in range(entries)]), 1)])


def spot_polys(program):
    entries = program.entries
    polys = [entry_poly(entries, entry) for entry in range(entries)]
    for step in program.steps:
        if step[0] == "number":
            polys.append(Poly(entries, [((0,) * entries, step[1])]))
        else:
            polys.append(joined_by(step[0], polys[step[1]], polys[step[2]]))
    return tuple(polys)


def moved_step(step, spots):
    """Return the step with each spot that it reads turned into the one that `spots` has for it."""
    return step if step[0] == "number" else (step[0], spots[step[1]], spots[step[2]])


def chained_program(first, second):
    if second.entries != len(first.results):
        raise BadChain()
    spots = [*first.results, *[first.spots_many + step for step in range(len(second.steps))]]
    steps = [*first.steps, *[moved_step(step, spots) for step in second.steps]]
    return Program(first.entries, steps, [spots[spot] for spot in second.results])
