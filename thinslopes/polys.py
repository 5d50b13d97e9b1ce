"""Polys: polynomials with whole numbers over a few entries, their numbers at values, and their slopes."""

from thinslopes.asks import MOST_NUMBER
from thinslopes.errors import BadPoly, BadValues, NoEntry, UnlikePolys
from thinslopes.ratios import is_sequence, is_whole, unshared

MOST_ENTRIES = 4
MOST_POWER = 99


def misvalued_at(many, values):
    """Return the index by which anything but `many` numbers within the bounds is told, or None."""
    if not is_sequence(values):
        return 0
    for index, value in enumerate(values):
        if not is_whole(value, -MOST_NUMBER, MOST_NUMBER):
            return index
    return None if len(values) == many else min(many, len(values))


def check_values(many, values):
    index = misvalued_at(many, values)
    if index is not None:
        raise BadValues(index)
    return tuple(values)


def check_entry(many, entry):
    if not is_whole(entry, 0, many - 1):
        raise NoEntry(unshared(entry))


def are_powers(thing, many):
    return is_sequence(thing) and len(thing) == many and all([is_whole(power, 0, MOST_POWER) for power in thing])


def check_term(many, index, term):
    if not is_sequence(term) or len(term) != 2:
        raise BadPoly("term", index)
    powers, number = term
    if not are_powers(powers, many):
        raise BadPoly("powers", index)
    if not is_whole(number):
        raise BadPoly("number", index)


def checked_terms(many, terms):
    if not is_sequence(terms):
        raise BadPoly("term", 0)
    sums = {}
    for index, term in enumerate(terms):
        check_term(many, index, term)
        powers = tuple(term[0])
        sums[powers] = sums.get(powers, 0) + term[1]
    return tuple([(powers, sums[powers]) for powers in sorted(sums) if sums[powers] != 0])


def raised(base, power):
    number = 1
    for _ in range(power):
        number = number * base
    return number


def term_at(powers, number, values):
    for power, value in zip(powers, values):
        number = number * raised(value, power)
    return number


def check_alike(one, other):
    if one.many != other.many:
        raise UnlikePolys()


class Poly:
    def __init__(self, many, terms):
        if not is_whole(many, 1, MOST_ENTRIES):
            raise BadPoly("many", 0)
        self.many = many
        self.terms = checked_terms(many, terms)

    def __eq__(self, other):
        return isinstance(other, Poly) and self.many == other.many and self.terms == other.terms

    def __add__(self, other):
        check_alike(self, other)
        return Poly(self.many, [*self.terms, *other.terms])

    def __sub__(self, other):
        check_alike(self, other)
        return Poly(self.many, [*self.terms, *[(powers, -number) for powers, number in other.terms]])

    def __mul__(self, other):
        check_alike(self, other)
        sums = {}
        for powers, number in self.terms:
            for more, times in other.terms:
                both = tuple([power + added for power, added in zip(powers, more)])
                sums[both] = sums.get(both, 0) + number * times
        return Poly(self.many, list(sums.items()))

    def value_at(self, values):
        checked = check_values(self.many, values)
        return sum([term_at(powers, number, checked) for powers, number in self.terms])

    def slope_by(self, entry):
        check_entry(self.many, entry)
        terms = []
        for powers, number in self.terms:
            if powers[entry] > 0:
                less = tuple([power - 1 if at == entry else power for at, power in enumerate(powers)])
                terms.append((less, powers[entry] * number))
        return Poly(self.many, terms)
