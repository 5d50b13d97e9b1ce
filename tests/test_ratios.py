import itertools
import math
from fractions import Fraction

from tests.helper import Case, as_fraction, not_sequences, not_wholes
from thinslopes.errors import BadRatio
from thinslopes.ratios import (
    ONE, ZERO, as_ratio, common_divisor, is_ratio, is_sequence, is_whole, make_ratio,
    ratio_compare, ratio_minus, ratio_negative, ratio_over, ratio_plus, ratio_times,
)

GREAT = 10 ** 30
SOME = [Fraction(top, bottom) for top in range(-6, 7) for bottom in (1, 2, 3, 4, 6, GREAT)]
NOT_RATIOS = [
    [1, 2], (2, 4), (0, 2), (1, 0), (1, -2), (-1, -2), (0, 0), (3, 0), (1,), (), (1, 2, 3), (True, 1), (1, True),
    (1.0, 2), ("1", 2), (None, 1), ((1, 1), (2, 1)), "12", {1: 2}, None, True, False, 1.0, Fraction(1, 2), object(),
]


def pair(fraction):
    return (fraction.numerator, fraction.denominator)


class WholeTest(Case):
    """Points 0.3 and 1.1: whole numbers and sequences."""

    def test_ints_are_whole(self):
        for number in (0, 1, -1, 7, GREAT, -GREAT):
            self.gives(True, is_whole, number)

    def test_other_things_are_not(self):
        for thing in [*not_wholes(), *NOT_RATIOS, *not_sequences()]:
            self.same(is_whole(thing), isinstance(thing, int) and not isinstance(thing, bool))
            self.assertIs(is_whole(thing, 0, 5), type(thing) is int)

    def test_limits_are_within(self):
        for number in range(-3, 9):
            self.gives(1 <= number <= 6, is_whole, number, 1, 6)
            self.gives(1 <= number, is_whole, number, 1)
            self.gives(1 <= number, is_whole, number, 1, None)
            self.gives(number <= 6, is_whole, number, None, 6)
            self.gives(number <= 6, is_whole, number, high=6)
            self.gives(1 <= number, is_whole, number, low=1)
            self.gives(number == 0, is_whole, number, 0, 0)
            self.gives(False, is_whole, number, 6, 1)

    def test_bools_are_never_whole(self):
        for low, high in ((None, None), (0, None), (None, 1), (0, 1)):
            self.gives(False, is_whole, True, low, high)
            self.gives(False, is_whole, False, low, high)

    def test_lists_and_tuples_alone_are_sequences(self):
        for thing in ([], (), [1], (1,), [[]], ((),)):
            self.gives(True, is_sequence, thing)
        for thing in not_sequences():
            self.assertIs(is_sequence(thing), False)


class RatioTest(Case):
    """Points 0.4 and 1.1: ratios."""

    def test_constants(self):
        self.same((ZERO, ONE), ((0, 1), (1, 1)))

    def test_common_divisor(self):
        for one, other in itertools.product(range(-30, 31), repeat=2):
            self.gives(math.gcd(one, other), common_divisor, one, other)
        self.gives(0, common_divisor, 0, 0)
        self.gives(6, common_divisor, 0, -6)
        self.gives(GREAT, common_divisor, GREAT * 14, -GREAT * 15)

    def test_make_ratio_in_lowest_terms(self):
        for top in range(-24, 25):
            for bottom in [*range(-12, 0), *range(1, 13), GREAT]:
                self.gives(pair(Fraction(top, bottom)), make_ratio, top, bottom)
            self.gives((top, 1), make_ratio, top)
        self.gives((-2, 3), make_ratio, bottom=-6, top=4)

    def test_zero_has_one_form(self):
        for bottom in (1, -1, 5, -GREAT):
            self.gives((0, 1), make_ratio, 0, bottom)

    def test_make_ratio_refuses_the_top(self):
        for thing in not_wholes():
            self.refuses(BadRatio("top"), make_ratio, thing)
            self.refuses(BadRatio("top"), make_ratio, thing, 2)

    def test_make_ratio_refuses_the_bottom(self):
        for thing in [*not_wholes(), 0]:
            self.refuses(BadRatio("bottom"), make_ratio, 3, thing)

    def test_the_top_is_told_ahead_of_the_bottom(self):
        self.refuses(BadRatio("top"), make_ratio, True, 0)
        self.refuses(BadRatio("top"), make_ratio, "1", None)

    def test_is_ratio(self):
        for number in SOME:
            self.gives(True, is_ratio, pair(number))
        for thing in [*NOT_RATIOS, 0, 1]:
            self.assertIs(is_ratio(thing), False, repr(thing))
        for top, bottom in itertools.product(range(-7, 8), repeat=2):
            fits = bottom > 0 and math.gcd(top, bottom) == 1
            self.gives(fits, is_ratio, (top, bottom))

    def test_as_ratio(self):
        for number in SOME:
            self.gives(pair(number), as_ratio, pair(number))
        for number in (0, 1, -1, GREAT, -GREAT):
            self.gives((number, 1), as_ratio, number)
        for thing in NOT_RATIOS:
            self.assertIsNone(as_ratio(thing), repr(thing))

    def test_sums_differences_products_quotients(self):
        for one, other in itertools.product(SOME, repeat=2):
            self.gives(pair(one + other), ratio_plus, pair(one), pair(other))
            self.gives(pair(one - other), ratio_minus, pair(one), pair(other))
            self.gives(pair(one * other), ratio_times, pair(one), pair(other))
            if other:
                self.gives(pair(one / other), ratio_over, pair(one), pair(other))

    def test_negative(self):
        for number in SOME:
            self.gives(pair(-number), ratio_negative, pair(number))

    def test_compare(self):
        for one, other in itertools.product(SOME, repeat=2):
            self.gives((one > other) - (one < other), ratio_compare, pair(one), pair(other))

    def test_nothing_is_divided_by_zero(self):
        for number in SOME:
            self.refuses(BadRatio("zero"), ratio_over, pair(number), ZERO)
            self.gives(number, lambda one: as_fraction(ratio_over(one, ONE)), pair(number))

    def test_by_name(self):
        self.gives((5, 6), ratio_plus, other=(1, 3), one=(1, 2))
        self.gives((1, 6), ratio_minus, other=(1, 3), one=(1, 2))
        self.gives((3, 2), ratio_over, other=(1, 3), one=(1, 2))
        self.gives(1, ratio_compare, other=(1, 3), one=(1, 2))
        self.gives(2, common_divisor, other=4, one=6)
        self.gives((-1, 2), ratio_negative, one=(1, 2))
        self.gives((1, 6), ratio_times, other=(1, 3), one=(1, 2))
        self.gives((4, 1), as_ratio, thing=4)
        self.gives(True, is_ratio, thing=(4, 1))
        self.gives(True, is_sequence, thing=[])
