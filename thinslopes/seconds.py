"""Second slopes of a result: their Polys, their web, bent runs that give them, and the parts of the result."""

from thinslopes.gained import table_by_answers
from thinslopes.groupings import book_of, check_grouping
from thinslopes.pieces import all_pieces
from thinslopes.polys import Poly
from thinslopes.programs import check_result, spot_numbers, spot_polys, spots_read
from thinslopes.ratios import as_ratios
from thinslopes.runs import backward_slopes, check_along, factors_of, forward_slopes
from thinslopes.slopes import entries_reaching
from thinslopes.spans import unit_row
from thinslopes.webs import Web

PRODUCTS_BY_TIMES = 9


class Bent:
    def __init__(self, spots, along, back, bends, answer, products):
        self.spots = spots
        self.along = along
        self.back = back
        self.bends = bends
        self.answer = answer
        self.products = products


class Parts:
    def __init__(self, base, lots):
        self.base = base
        self.lots = lots


def result_poly(program, result):
    check_result(program, result)
    return spot_polys(program)[program.results[result]]


def second_polys(program, result):
    poly = result_poly(program, result)
    entries = list(range(program.entries))
    return tuple([tuple([poly.slope_by(one).slope_by(other) for other in entries]) for one in entries])


def web_of(polys):
    """Return the web of the second slopes that are not the Poly 0."""
    ties = [(one, other) for one in range(len(polys)) for other in range(one, len(polys)) if polys[one][other].terms]
    return Web(len(polys), ties)


def program_web(program, result):
    return web_of(second_polys(program, result))


def ties_met(step, reaching):
    """Return the ties that meet first at this step."""
    if step[0] != "times":
        return []
    return [(min(one, other), max(one, other)) for one in reaching[step[1]] for other in reaching[step[2]]]


def web_by_steps(program, result):
    check_result(program, result)
    reaching = entries_reaching(program)
    meeting = [[] for entry in range(program.entries)]
    for step in program.steps:
        met = [tie for spot in spots_read(step) for tie in meeting[spot]]
        meeting.append(sorted(set([*met, *ties_met(step, reaching)])))
    return Web(program.entries, meeting[program.results[result]])


def bends_of(program, spots, along, back):
    bends = [0] * program.spots_many
    for at in reversed(range(len(program.steps))):
        step = program.steps[at]
        own = program.entries + at
        for read, factor in factors_of(step, spots):
            bends[read] += factor * bends[own]
        if step[0] == "times":
            bends[step[1]] += back[own] * along[step[2]]
            bends[step[2]] += back[own] * along[step[1]]
    return tuple(bends)


def bent_at(program, spots, result, column):
    along = tuple(forward_slopes(program, spots, column))
    back = tuple(backward_slopes(program, spots, unit_row(len(program.results), result)))
    bends = bends_of(program, spots, along, back)
    return Bent(spots, along, back, bends, bends[:program.entries], PRODUCTS_BY_TIMES * program.times_many)


def bent_run(program, values, result, column):
    spots = spot_numbers(program, values)
    check_result(program, result)
    return bent_at(program, spots, result, check_along(program.entries, column))


def second_at(program, values, result):
    spots = spot_numbers(program, values)
    check_result(program, result)
    entries = program.entries
    # Each column of the table is the row of the same entry, too.
    rows = [bent_at(program, spots, result, unit_row(entries, entry)).answer for entry in range(entries)]
    return tuple([as_ratios(row, entries) for row in rows])


def bent_table(program, values, result, grouping):
    spots = spot_numbers(program, values)
    check_result(program, result)
    book = book_of(check_grouping(program.entries, grouping))
    runs = [bent_at(program, spots, result, column) for kind, column in book]
    return table_by_answers(program_web(program, result).as_mould(), book, runs)


def has_entry(powers, entries):
    """Tell whether a power of one of these entries is above 0."""
    return any([powers[entry] > 0 for entry in entries])


def result_parts(program, result):
    poly = result_poly(program, result)
    every = list(range(program.entries))
    base = sum([number for powers, number in poly.terms if not has_entry(powers, every)])
    lots = []
    for piece in all_pieces(program_web(program, result), (0,) * program.entries):
        terms = [(powers, number) for powers, number in poly.terms if has_entry(powers, piece.points)]
        lots.append((piece.points, Poly(program.entries, terms)))
    return Parts(base, tuple(lots))
