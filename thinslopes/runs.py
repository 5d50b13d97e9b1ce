"""Runs forward and backward through a program, and programs that do what such runs do."""

from thinslopes.errors import BadAlong, TooGreat
from thinslopes.polys import misvalued_at
from thinslopes.programs import Program, spot_numbers

MOST_STEPS_DERIVED = 10
PRODUCTS_BY_TIMES = 3


class Run:
    def __init__(self, spots, slopes, answer, products):
        self.spots = spots
        self.slopes = slopes
        self.answer = answer
        self.products = products


def check_along(many, numbers):
    index = misvalued_at(many, numbers)
    if index is not None:
        raise BadAlong(index)
    return tuple(numbers)


def factors_of(step, spots):
    """Return a couple for each side of a step: the spot that it reads, and the factor of this side."""
    if step[0] == "number":
        return []
    word, one, other = step
    if word == "times":
        return [(one, spots[other]), (other, spots[one])]
    return [(one, 1), (other, 1 if word == "plus" else -1)]


def forward_slopes(program, spots, column):
    slopes = list(column)
    for step in program.steps:
        slopes.append(sum([factor * slopes[read] for read, factor in factors_of(step, spots)]))
    return slopes


def backward_slopes(program, spots, row):
    slopes = [0] * program.spots_many
    for spot, number in zip(program.results, row):
        slopes[spot] += number
    for at in reversed(range(len(program.steps))):
        for read, factor in factors_of(program.steps[at], spots):
            slopes[read] += factor * slopes[program.entries + at]
    return slopes


def forward_at(program, spots, column):
    slopes = forward_slopes(program, spots, column)
    answer = tuple([slopes[spot] for spot in program.results])
    return Run(spots, tuple(slopes), answer, PRODUCTS_BY_TIMES * program.times_many)


def backward_at(program, spots, row):
    slopes = tuple(backward_slopes(program, spots, row))
    return Run(spots, slopes, slopes[:program.entries], PRODUCTS_BY_TIMES * program.times_many)


def forward_run(program, values, column):
    spots = spot_numbers(program, values)
    return forward_at(program, spots, check_along(program.entries, column))


def backward_run(program, values, row):
    spots = spot_numbers(program, values)
    return backward_at(program, spots, check_along(len(program.results), row))


def check_few_steps(program):
    if len(program.steps) > MOST_STEPS_DERIVED:
        raise TooGreat(len(program.steps))


class Builder:
    """Steps that are put behind those of a program, whose spots stay as they are."""

    def __init__(self, program):
        self.entries = program.entries
        self.steps = list(program.steps)

    def put(self, *step):
        """Put a step behind all others and return its spot."""
        self.steps.append(step)
        return self.entries + len(self.steps) - 1


def put_forward(builder, step, slopes):
    """Put the steps that make the slope of a step, and return its spot."""
    if step[0] == "number":
        return builder.put("number", 0)
    word, one, other = step
    if word != "times":
        return builder.put(word, slopes[one], slopes[other])
    first = builder.put("times", slopes[one], other)
    return builder.put("plus", first, builder.put("times", slopes[other], one))


def forward_program(program, column):
    numbers = check_along(program.entries, column)
    check_few_steps(program)
    builder = Builder(program)
    slopes = [builder.put("number", number) for number in numbers]
    for step in program.steps:
        slopes.append(put_forward(builder, step, slopes))
    return Program(program.entries, builder.steps, [slopes[spot] for spot in program.results])


def put_backward(builder, step, slopes, slope):
    """Put the steps that add what a step with this slope adds to the slopes of the spots that it reads."""
    if step[0] == "number":
        return
    word, one, other = step
    if word == "times":
        slopes[one] = builder.put("plus", slopes[one], builder.put("times", slope, other))
        slopes[other] = builder.put("plus", slopes[other], builder.put("times", slope, one))
    else:
        slopes[one] = builder.put("plus", slopes[one], slope)
        slopes[other] = builder.put(word, slopes[other], slope)


def backward_program(program, row):
    numbers = check_along(len(program.results), row)
    check_few_steps(program)
    builder = Builder(program)
    slopes = [builder.put("number", 0)] * program.spots_many
    for spot, number in zip(program.results, numbers):
        # One by one, since the sum of several numbers may be above the bound of a step's number.
        slopes[spot] = builder.put("plus", slopes[spot], builder.put("number", number))
    for at in reversed(range(len(program.steps))):
        put_backward(builder, program.steps[at], slopes, slopes[program.entries + at])
    return Program(program.entries, builder.steps, slopes[:program.entries])
