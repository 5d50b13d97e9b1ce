"""Letters whose rests follow from the rests of the answers."""

from thinslopes.asks import span_rows
from thinslopes.errors import BadModulus
from thinslopes.moulds import check_letter
from thinslopes.ratios import are_wholes, is_whole, unshared
from thinslopes.spans import made_of, turned_rows, unit_row
from thinslopes.wholes import basis_by_rests, filling_for, unit_times

LEAST_MODULUS = 2
MOST_MODULUS = 12


class RestWeights:
    def __init__(self, row):
        self.row = row


class RestHidden:
    def __init__(self, numbers):
        self.numbers = numbers


def check_modulus(modulus):
    if not is_whole(modulus, LEAST_MODULUS, MOST_MODULUS):
        raise BadModulus(unshared(modulus))
    return modulus


def rests_told(rows, width, letter, modulus):
    basis = basis_by_rests(rows, width, modulus)
    times = unit_times(basis, letter)
    broken = [place for place, ratio in enumerate(times) if ratio[1] != 1]
    if broken:
        # A filling that makes 1 with one line and 0 with the others has rests for numbers if all are multiplied.
        filling = filling_for(basis, unit_row(width, broken[0]))
        return RestHidden(tuple([ratio[0] * modulus // ratio[1] % modulus for ratio in filling]))
    tails = turned_rows([line[width:] for line in basis], len(rows))
    return RestWeights(tuple([made_of(tail, [ratio[0] for ratio in times]) % modulus for tail in tails]))


def told_by_rests(mould, book, letter, modulus):
    rows = span_rows(mould, book)
    check_letter(mould, letter)
    return rests_told(rows, mould.letters_many, letter, check_modulus(modulus))


def rest_weights_fault(mould, book, letter, modulus, weights):
    rows = span_rows(mould, book)
    unit = unit_row(mould.letters_many, check_letter(mould, letter))
    check_modulus(modulus)
    if not are_wholes(weights.row, len(rows)):
        return "many"
    made = [made_of(column, weights.row) for column in turned_rows(rows, mould.letters_many)]
    return "letter" if any([(number - one) % modulus != 0 for number, one in zip(made, unit)]) else None


def rest_hidden_fault(mould, book, letter, modulus, hidden):
    rows = span_rows(mould, book)
    check_letter(mould, letter)
    check_modulus(modulus)
    if not are_wholes(hidden.numbers, mould.letters_many):
        return "many"
    if any([made_of(row, hidden.numbers) % modulus != 0 for row in rows]):
        return "answer"
    return "letter" if hidden.numbers[letter] % modulus == 0 else None


def told_moduli(mould, book, letter):
    rows = span_rows(mould, book)
    check_letter(mould, letter)
    found = []
    for modulus in range(LEAST_MODULUS, MOST_MODULUS + 1):
        if isinstance(rests_told(rows, mould.letters_many, letter, modulus), RestWeights):
            found.append(modulus)
    return tuple(found)
