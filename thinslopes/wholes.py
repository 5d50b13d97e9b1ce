"""Bottoms: the least multiple of a letter that is sure to be whole where all answers are whole."""

from math import lcm

from thinslopes.asks import row_sum, span_rows
from thinslopes.moulds import check_letter
from thinslopes.ratios import (
    ONE, ZERO, are_wholes, as_ratios, common_divisor, is_whole, over_one_bottom, ratio_minus, ratio_over,
)
from thinslopes.spans import hidden_basis, made_of, traced_rows, turned_rows, unit_row, without_divisor
from thinslopes.told import first_hidden


class Whole:
    def __init__(self, bottom, weights, numbers):
        self.bottom = bottom
        self.weights = weights
        self.numbers = numbers


def bezout(one, other):
    """Return the greatest common divisor of two numbers from 0 on, and how many times each of them makes it."""
    before, now = (one, 1, 0), (other, 0, 1)
    while now[0] != 0:
        times = before[0] // now[0]
        before, now = now, tuple([number - times * less for number, less in zip(before, now)])
    return before


def joined_lines(first, second, at, modulus):
    """Return two lines with the same whole sums but for multiples of the modulus; the second has 0 at `at`."""
    divisor, times, other = bezout(first[at], second[at])
    up, down = first[at] // divisor, second[at] // divisor
    kept = [(times * a + other * b) % modulus for a, b in zip(first, second)]
    rest = [(up * b - down * a) % modulus for a, b in zip(first, second)]
    return kept, rest


def basis_by_rests(rows, width, modulus):
    """Return a basis of the whole sums of the rows and the multiples of the modulus, a line for each position.

    The lead of each line stands at its position. Behind `width` numbers stand whole weights of the rows that make
    the line but for multiples of the modulus; so no number is above the modulus.
    """
    many = len(rows)
    basis = [[modulus if place == at else 0 for place in range(width + many)] for at in range(width)]
    for index, row in enumerate(rows):
        line = [number % modulus for number in [*row, *unit_row(many, index)]]
        for at in range(width):
            if line[at] != 0:
                basis[at], line = joined_lines(basis[at], line, at, modulus)
    return basis


def unit_times(basis, at):
    """Return the ratios by which the lines of a basis make the unit row."""
    times = []
    for place, line in enumerate(basis):
        made = row_sum([other[place] for other in basis[:place]], times)
        times.append(ratio_over(ratio_minus(ONE if place == at else ZERO, made), (line[place], 1)))
    return times


def filling_for(basis, wanted):
    """Return the filling with which the lines of a basis make the wanted whole numbers."""
    filling = [ZERO] * len(basis)
    for place in reversed(range(len(basis))):
        made = row_sum(basis[place], filling)
        filling[place] = ratio_over(ratio_minus((wanted[place], 1), made), (basis[place][place], 1))
    return filling


def times_for_bottom(numbers, bottom):
    """Return times for the numbers by which they make a sum that shares no divisor above 1 with the bottom."""
    times = []
    made = 0
    for number in numbers:
        if common_divisor(made, bottom) == 1:
            times.append(0)
        else:
            made, more, other = bezout(made, abs(number))
            times = [*[more * time for time in times], -other if number < 0 else other]
    return times


class Sums:
    """The whole sums of rows, at those positions alone that fix a sum of the rows elsewhere, too."""

    def __init__(self, rows, width):
        cleared, _ = traced_rows(rows, width)
        lines = [(lead, without_divisor(line, lead)) for lead, line in cleared]
        self.leads = [lead for lead, _ in cleared]
        self.modulus = 1
        for lead, line in lines:
            self.modulus = lcm(self.modulus, line[lead])
        # By the maker of a position the rows make the modulus there and 0 at the others.
        self.makers = [[number * (self.modulus // line[lead]) for number in line[width:]] for lead, line in lines]
        self.rows = [[row[lead] for lead in self.leads] for row in rows]
        self.basis = basis_by_rests(self.rows, len(lines), self.modulus)

    def times_of(self, letter):
        """Return how many times each line of the basis makes a told letter's unit row, bottom times, and the bottom."""
        return over_one_bottom(unit_times(self.basis, self.leads.index(letter)))

    def weights_of(self, letter):
        """Return whole weights of the rows that make the bottom at a told letter and 0 elsewhere."""
        times, bottom = self.times_of(letter)
        rank = len(self.leads)
        tails = turned_rows([line[rank:] for line in self.basis], len(self.rows))
        weights = [made_of(tail, times) % self.modulus for tail in tails]
        made = [made_of(column, weights) for column in turned_rows(self.rows, rank)]
        for lead, number, maker in zip(self.leads, made, self.makers):
            lacking = (bottom if lead == letter else 0) - number
            weights = [weight + lacking // self.modulus * more for weight, more in zip(weights, maker)]
        return tuple(weights)

    def filling_of(self, letter, width):
        """Return a filling of `width` letters that makes whole numbers, in which a told letter has its bottom."""
        times, bottom = self.times_of(letter)
        found = filling_for(self.basis, times_for_bottom(times, bottom))
        filling = [ZERO] * width
        for lead, ratio in zip(self.leads, found):
            # Whole numbers less leave the answers whole and the bottoms as they are, and keep the tops small.
            filling[lead] = (ratio[0] % ratio[1], ratio[1])
        return tuple(filling)


def whole_told(mould, book, letter):
    rows = span_rows(mould, book)
    many = mould.letters_many
    hidden = first_hidden(hidden_basis(rows, many), check_letter(mould, letter))
    if hidden is not None:
        return hidden
    sums = Sums(rows, many)
    _, bottom = sums.times_of(letter)
    return Whole(bottom, sums.weights_of(letter), sums.filling_of(letter, many))


def whole_fault(mould, book, letter, whole):
    rows = span_rows(mould, book)
    many = mould.letters_many
    unit = unit_row(many, check_letter(mould, letter))
    if not is_whole(whole.bottom, 1):
        return "bottom"
    if not are_wholes(whole.weights, len(rows)):
        return "weights"
    if [made_of(column, whole.weights) for column in turned_rows(rows, many)] != [whole.bottom * one for one in unit]:
        return "weights"
    numbers = as_ratios(whole.numbers, many)
    if numbers is None or any([row_sum(row, numbers)[1] != 1 for row in rows]):
        return "numbers"
    return None if numbers[letter][1] == whole.bottom else "letter"


def letter_bottoms(mould, book):
    rows = span_rows(mould, book)
    many = mould.letters_many
    basis = hidden_basis(rows, many)
    sums = Sums(rows, many)
    bottoms = []
    for letter in range(many):
        bottoms.append(sums.times_of(letter)[1] if first_hidden(basis, letter) is None else 0)
    return tuple(bottoms)
