"""The slopes of a program: their Polys, their numbers, their places, and the ways that they are sums over."""

from thinslopes.moulds import Mould
from thinslopes.polys import Poly, check_entry, raised
from thinslopes.programs import check_result, spot_numbers, spot_polys, spots_read
from thinslopes.ratios import as_ratios
from thinslopes.runs import forward_slopes
from thinslopes.spans import turned_rows, unit_row


def slope_polys(program):
    polys = spot_polys(program)
    entries = list(range(program.entries))
    return tuple([tuple([polys[spot].slope_by(entry) for entry in entries]) for spot in program.results])


def table_at(program, values):
    spots = spot_numbers(program, values)
    columns = [forward_slopes(program, spots, unit_row(program.entries, entry)) for entry in range(program.entries)]
    rows = turned_rows(columns, program.spots_many)
    return tuple([as_ratios(rows[spot], program.entries) for spot in program.results])


def with_value(poly, entry, value):
    """Return the Poly in which the entry has this value."""
    terms = []
    for powers, number in poly.terms:
        left = tuple([0 if at == entry else power for at, power in enumerate(powers)])
        terms.append((left, number * raised(value, powers[entry])))
    return Poly(poly.many, terms)


def shown_at(program, result, entry):
    check_result(program, result)
    poly = spot_polys(program)[program.results[result]].slope_by(entry)
    if not poly.terms:
        return None
    values = []
    for at in range(program.entries):
        # No power is above 6, so that 6 values at most make the Poly 0 of another one.
        able = [value for value in range(7) if with_value(poly, at, value).terms]
        values.append(able[0])
        poly = with_value(poly, at, able[0])
    return tuple(values)


def program_mould(program, *, shared=False):
    polys = slope_polys(program)
    cells = [(row, at) for row, line in enumerate(polys) for at, poly in enumerate(line) if poly.terms]
    if not shared:
        return Mould(len(polys), program.entries, cells)
    numbers = {}
    for row, at in cells:
        numbers.setdefault(polys[row][at].terms, len(numbers))
    return Mould(len(polys), program.entries, cells, [numbers[polys[row][at].terms] for row, at in cells])


def entries_reaching(program):
    """Return, for each spot, the entries that reach it, ascending."""
    reaching = [(entry,) for entry in range(program.entries)]
    for step in program.steps:
        reaching.append(tuple(sorted(set([entry for spot in spots_read(step) for entry in reaching[spot]]))))
    return reaching


def mould_by_steps(program):
    reaching = entries_reaching(program)
    cells = [(row, entry) for row, spot in enumerate(program.results) for entry in reaching[spot]]
    return Mould(len(program.results), program.entries, cells)


def spots_leading_to(program, spot):
    """Return whether each spot is this one or is read on some way to it."""
    leading = [at == spot for at in range(program.spots_many)]
    for at in reversed(range(len(program.steps))):
        if leading[program.entries + at]:
            for read in spots_read(program.steps[at]):
                leading[read] = True
    return leading


def couples_reading(program, leading):
    """Return, for each spot, the couples (step, side) that read it on ways to the result, ascending."""
    couples = [[] for spot in range(program.spots_many)]
    for at, step in enumerate(program.steps):
        if leading[program.entries + at]:
            for side, read in enumerate(spots_read(step)):
                couples[read].append((at, side))
    return couples


def ways_of(program, result, entry):
    check_result(program, result)
    check_entry(program.entries, entry)
    end = program.results[result]
    leading = spots_leading_to(program, end)
    couples = couples_reading(program, leading)
    waiting = [((), entry)] if leading[entry] else []
    while waiting:
        way, spot = waiting.pop()
        if spot == end:
            yield way
        else:
            # The first couple has to be taken first, so it is put last.
            for at, side in reversed(couples[spot]):
                waiting.append(((*way, (at, side)), program.entries + at))
