"""Tables of slopes gained from runs alone, and slopes that the same weights tell at all values."""

from thinslopes.asks import check_book
from thinslopes.errors import BadShape
from thinslopes.moulds import Mould
from thinslopes.polys import Poly, check_entry
from thinslopes.programs import check_result, spot_numbers
from thinslopes.ratios import as_ratios
from thinslopes.recover import Clash, known_rows, recovered_from
from thinslopes.runs import backward_at, forward_at
from thinslopes.slopes import program_mould, slope_polys
from thinslopes.spans import hidden_basis, made_of, turned_rows, weights_for


class RunTable:
    def __init__(self, rows, products):
        self.rows = rows
        self.products = products


class Apart:
    def __init__(self, terms):
        self.terms = terms


def check_asks(program, book):
    """Return a book for the tables of the program, in tuples."""
    return check_book(Mould(len(program.results), program.entries, []), book)


def runs_for(program, values, book):
    """Return a run for each ask of the book."""
    spots = spot_numbers(program, values)
    runs = []
    for kind, numbers in check_asks(program, book):
        runs.append(forward_at(program, spots, numbers) if kind == "column" else backward_at(program, spots, numbers))
    return runs


def answers_of_runs(runs):
    answers = [number for run in runs for number in run.answer]
    return as_ratios(answers, len(answers))


def run_answers(program, values, book):
    return answers_of_runs(runs_for(program, values, book))


def table_by_answers(mould, book, runs):
    found = recovered_from(mould, book, answers_of_runs(runs))
    if isinstance(found, Clash):
        return found
    return RunTable(known_rows(mould, found.numbers), sum([run.products for run in runs]))


def table_by_runs(program, values, book, mould=None):
    runs = runs_for(program, values, book)
    wanted = program_mould(program) if mould is None else mould
    if wanted.height != len(program.results) or wanted.width != program.entries:
        raise BadShape()
    return table_by_answers(wanted, book, runs)


def sum_of_polys(polys, numbers):
    """Return the sum of the Polys, each as many times as the numbers say."""
    terms = []
    for poly, times in zip(polys, numbers):
        terms.extend([(powers, times * number) for powers, number in poly.terms])
    return Poly(polys[0].many, terms)


def answer_polys(program, polys, asks):
    """Return the Poly of each answer of the asks, where `polys` are those of the slopes."""
    answers = []
    for kind, numbers in asks:
        lines = polys if kind == "column" else turned_rows(polys, program.entries)
        answers.extend([sum_of_polys(line, numbers) for line in lines])
    return answers


def numbers_by_powers(poly, powers):
    """Return the number that the Poly has for each of the powers."""
    numbers = {own: number for own, number in poly.terms}
    return [numbers.get(one, 0) for one in powers]


def told_always(program, book, result, entry):
    asks = check_asks(program, book)
    check_result(program, result)
    check_entry(program.entries, entry)
    polys = slope_polys(program)
    answers = answer_polys(program, polys, asks)
    slope = polys[result][entry]
    powers = sorted(set([own for poly in [slope, *answers] for own, number in poly.terms]))
    rows = [numbers_by_powers(poly, powers) for poly in answers]
    wanted = numbers_by_powers(slope, powers)
    weights = weights_for(rows, wanted)
    if weights is not None:
        return weights
    apart = [hidden for hidden in hidden_basis(rows, len(powers)) if made_of(hidden, wanted) != 0][0]
    return Apart(tuple([(own, number) for own, number in zip(powers, apart) if number != 0]))
