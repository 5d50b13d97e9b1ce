"""What the tests share: wrong things of many kinds, and a test case with strict comparisons."""

import copy
import itertools
import unittest
from fractions import Fraction

from thinslopes.moulds import Mould
from thinslopes.webs import Web

# No cells of a table of 2 rows and 3 columns.
NO_CELLS = [
    (0,), (0, 0, 0), (), (2, 0), (0, 3), (-1, 0), (0, -1), (True, 0), (0, False), (0, 1.0), ("0", 0), (None, 0),
    ((0,), 0), "00", b"00", 0, None, True, {0: 0, 1: 1}, range(2), object(),
]


def not_sequences():
    return [None, 0, 2, True, "00", b"ab", {0: 1}, {0, 1}, range(2), iter([0]), object()]


def not_wholes():
    return [True, False, None, "1", "", 1.0, (1, 1), [1], (1,), b"1", object()]


def numberings(many):
    """All numberings by first appearance of `many` things, ascending."""
    found = []
    for letters in itertools.product(range(many), repeat=many):
        firsts = sorted(set(letters), key=letters.index)
        if firsts == list(range(len(firsts))):
            found.append(letters)
    return found


def lots(things):
    return [lot for many in range(len(things) + 1) for lot in itertools.combinations(things, many)]


def all_moulds(height, width):
    cells = list(itertools.product(range(height), range(width)))
    return [Mould(height, width, lot, letters) for lot in lots(cells) for letters in numberings(len(lot))]


def all_webs(points):
    ties = list(itertools.combinations_with_replacement(range(points), 2))
    return [Web(points, lot) for lot in lots(ties)]


def as_fraction(number):
    return Fraction(*number) if isinstance(number, tuple) else Fraction(number)


def as_ratios(fractions):
    return tuple((number.numerator, number.denominator) for number in fractions)


def plain(value):
    """An object of the program as plain values that show each bool, list and tuple as such."""
    if isinstance(value, (Mould, Web)):
        return (type(value).__name__, vars(value))
    if isinstance(value, (list, tuple)):
        return type(value)(plain(item) for item in value)
    return value


class Case(unittest.TestCase):
    def same(self, result, expected):
        """Equal, with True unlike 1 and a list unlike a tuple."""
        self.assertEqual(repr(plain(result)), repr(plain(expected)))

    def gives(self, expected, call, *args, **named):
        before = copy.deepcopy((args, named))
        self.same(call(*args, **named), expected)
        self.same(args, before[0])
        self.same(tuple(named.items()), tuple(before[1].items()))

    def refuses(self, expected, call, *args, **named):
        """The call raises exactly this error; an attribute may bear a tuple in the place of a list."""
        before = repr(plain((args, tuple(named.items()))))
        with self.assertRaises(type(expected), msg=repr((args, named))) as caught:
            call(*args, **named)
        self.assertIs(type(caught.exception), type(expected))
        self.assertEqual(
            [(name, untupled(value)) for name, value in vars(caught.exception).items()],
            [(name, untupled(value)) for name, value in vars(expected).items()],
            msg=repr((args, named)),
        )
        self.assertEqual(repr(plain((args, tuple(named.items())))), before)


def untupled(value):
    """Values that are alike but for lists and tuples become the same text; True stays unlike 1."""
    if isinstance(value, (list, tuple)):
        return "[" + ", ".join(untupled(item) for item in value) + "]"
    return repr(value)
