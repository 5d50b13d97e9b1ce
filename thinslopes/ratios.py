"""Whole numbers, sequences, and ratios: tuples (top, bottom) in lowest terms with a bottom above 0."""

from math import gcd, lcm

from thinslopes.errors import BadRatio

ZERO = (0, 1)
ONE = (1, 1)


def is_sequence(thing):
    return isinstance(thing, (list, tuple))


def is_whole(thing, low=None, high=None):
    if not isinstance(thing, int) or isinstance(thing, bool):
        return False
    return (low is None or low <= thing) and (high is None or thing <= high)


def is_worded(thing, lengths):
    """Tell whether a thing is a sequence that begins with a word and has as many items as `lengths` has for it."""
    if not is_sequence(thing) or len(thing) == 0 or not isinstance(thing[0], str):
        return False
    return lengths.get(thing[0]) == len(thing)


def unshared(thing):
    """Return a list as a tuple, any other thing as it is."""
    # An error bears what was passed in; it must not change when the caller's list does.
    return tuple(thing) if isinstance(thing, list) else thing


def misnumbered_at(things, gaps=False):
    """Return the index of the first thing that breaks the numbering by first appearance, or None."""
    greatest = -1
    for index, thing in enumerate(things):
        if gaps and thing is None:
            continue
        if not is_whole(thing, 0, greatest + 1):
            return index
        greatest = max(greatest, thing)
    return None


def common_divisor(one, other):
    return gcd(one, other)


def lowest_terms(top, bottom):
    """Return the ratio of two whole numbers, the second of which is not 0."""
    divisor = common_divisor(top, bottom)
    if bottom < 0:
        divisor = -divisor
    return (top // divisor, bottom // divisor)


def make_ratio(top, bottom=1):
    if not is_whole(top):
        raise BadRatio("top")
    if not is_whole(bottom) or bottom == 0:
        raise BadRatio("bottom")
    return lowest_terms(top, bottom)


def is_ratio(thing):
    if not isinstance(thing, tuple) or len(thing) != 2:
        return False
    return is_whole(thing[0]) and is_whole(thing[1], 1) and common_divisor(thing[0], thing[1]) == 1


def as_ratio(thing):
    if is_whole(thing):
        return (thing, 1)
    return thing if is_ratio(thing) else None


def as_ratios(things, many):
    """Return a ratio for each of `many` numbers, or None if the things are no sequence of so many numbers."""
    if not is_sequence(things) or len(things) != many:
        return None
    ratios = tuple([as_ratio(thing) for thing in things])
    return None if None in ratios else ratios


def over_one_bottom(ratios):
    """Return whole numbers and the least bottom above 0 over which they are the ratios."""
    bottom = 1
    for ratio in ratios:
        bottom = lcm(bottom, ratio[1])
    return [ratio[0] * (bottom // ratio[1]) for ratio in ratios], bottom


def are_wholes(things, many):
    """Tell whether the things are a sequence of `many` whole numbers."""
    return is_sequence(things) and len(things) == many and all([is_whole(thing) for thing in things])


def ratio_plus(one, other):
    return lowest_terms(one[0] * other[1] + other[0] * one[1], one[1] * other[1])


def ratio_minus(one, other):
    return lowest_terms(one[0] * other[1] - other[0] * one[1], one[1] * other[1])


def ratio_times(one, other):
    return lowest_terms(one[0] * other[0], one[1] * other[1])


def ratio_over(one, other):
    if other[0] == 0:
        raise BadRatio("zero")
    return lowest_terms(one[0] * other[1], one[1] * other[0])


def ratio_negative(one):
    return (-one[0], one[1])


def ratio_compare(one, other):
    left = one[0] * other[1]
    right = other[0] * one[1]
    if left == right:
        return 0
    return -1 if left < right else 1
