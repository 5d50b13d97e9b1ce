"""What the tests share: wrong things of many kinds, and a test case with strict comparisons."""

import itertools
import unittest
from fractions import Fraction

from thinslopes.errors import BadAnswers, BadAsk, BadBudget, BadGrouping, BadLetter
from thinslopes.moulds import Mould
from thinslopes.webs import Web

# No cells of a table of 2 rows and 3 columns.
NO_CELLS = [
    (0,), (0, 0, 0), (), (2, 0), (0, 3), (-1, 0), (0, -1), (True, 0), (0, False), (0, 1.0), ("0", 0), (None, 0),
    ((0,), 0), "00", b"00", 0, None, True, {0: 0, 1: 1}, range(2), object(),
]


def not_sequences():
    return [None, 0, 2, True, "00", b"ab", {0: 1}, {0, 1}, range(2), iter([0]), object()]


def not_wholes():
    return [True, False, None, "1", "", 1.0, (1, 1), [1], (1,), b"1", object()]


def numberings(many):
    """All numberings by first appearance of `many` things, ascending."""
    found = []
    for letters in itertools.product(range(many), repeat=many):
        firsts = sorted(set(letters), key=letters.index)
        if firsts == list(range(len(firsts))):
            found.append(letters)
    return found


def gapped(many):
    """All groupings of `many` things with gaps, in no certain order."""
    found = []
    for kept in itertools.product((False, True), repeat=many):
        for letters in numberings(sum(kept)):
            rest = iter(letters)
            found.append(tuple(next(rest) if there else None for there in kept))
    return found


def lots(things):
    return [lot for many in range(len(things) + 1) for lot in itertools.combinations(things, many)]


def all_moulds(height, width):
    cells = list(itertools.product(range(height), range(width)))
    return [Mould(height, width, lot, letters) for lot in lots(cells) for letters in numberings(len(lot))]


def all_webs(points):
    ties = list(itertools.combinations_with_replacement(range(points), 2))
    return [Web(points, lot) for lot in lots(ties)]


def as_fraction(number):
    return Fraction(*number) if isinstance(number, tuple) else Fraction(number)


def as_ratios(fractions):
    return tuple((number.numerator, number.denominator) for number in fractions)


def rank_by_fractions(rows):
    """The rank of rows, by the plainest elimination."""
    left = [[Fraction(number) for number in row] for row in rows]
    rank = 0
    for at in range(len(left[0]) if left else 0):
        usable = [row for row in left if row[at] != 0]
        if usable:
            pivot = usable[0]
            left = [[a - row[at] / pivot[at] * b for a, b in zip(row, pivot)] for row in left if row is not pivot]
            rank += 1
    return rank


def unit(many, at):
    return tuple(1 if place == at else 0 for place in range(many))


def is_told(mould, rows, letter):
    """Whether the letter's unit row is a sum of the span rows, by point 2.3."""
    return rank_by_fractions([*rows, unit(mould.letters_many, letter)]) == rank_by_fractions(rows)


def weighted(rows, weights, width):
    """The sum of the rows by these weights, as fractions."""
    return [sum((as_fraction(weight) * row[at] for weight, row in zip(weights, rows)), Fraction(0))
            for at in range(width)]


def random_mould(chance, height, width, letters=None, places=None):
    """A mould with about so many places, of which some share a letter unless `letters` is False."""
    cells = [cell for cell in itertools.product(range(height), range(width))
             if chance.random() < (0.6 if places is None else places)]
    if letters is False:
        return Mould(height, width, cells)
    numbers = []
    for _ in cells:
        numbers.append(chance.randint(0, max(numbers, default=-1) + 1))
    return Mould(height, width, cells, numbers if chance.random() < 0.5 else None)


def random_book(chance, mould, most=8, greatest=3, kinds=("column", "row")):
    book = []
    for _ in range(chance.randint(0, most)):
        kind = chance.choice(kinds)
        length = mould.width if kind == "column" else mould.height
        book.append((kind, tuple(chance.randint(-greatest, greatest) for _ in range(length))))
    return tuple(book)


def random_web(chance, points, ties=0.5):
    couples = itertools.combinations_with_replacement(range(points), 2)
    return Web(points, [tie for tie in couples if chance.random() < ties])


def wrong_books(mould):
    """Couples of a thing that is no book of the mould and the error that tells why."""
    column, row = ("column", (0,) * mould.width), ["row", [1] * mould.height]
    found = [(thing, BadAsk(0, "many")) for thing in (*not_sequences(), [column] * 9, (None,) * 9)]
    found += [([thing], BadAsk(0, "kind")) for thing in (None, (), "cr", ("rows", (1,)), ("column",), (True, None))]
    found += [([column, row, ("row", thing)], BadAsk(2, "length")) for thing in (None, "1", [1] * 7, [], range(3))]
    found += [([row, ("column", [thing] * mould.width)], BadAsk(1, "number")) for thing in (True, None, 10 ** 9 + 1)]
    found.append(([column, ("row", None), ("x", ())], BadAsk(1, "length")))
    return found


def wrong_letters(mould):
    things = [*not_wholes(), -1, mould.letters_many]
    return [(thing, BadLetter(thing)) for thing in things]


def wrong_answers(many):
    """Couples for `many` answers, 2 or more."""
    found = [(thing, BadAnswers(0, "many")) for thing in (*not_sequences(), [], [0] * (many + 1), [None] * (many - 1))]
    for thing in [*NO_NUMBERS, None]:
        found.append(([0] * (many - 1) + [thing], BadAnswers(many - 1, "number")))
        found.append(((thing,) * many, BadAnswers(0, "number")))
        found.append(([(1, 2), thing, *[None] * (many - 2)], BadAnswers(1, "number")))
    return found


def wrong_groupings(count, gaps=False):
    """Couples for groupings of `count` things, 2 or more."""
    found = [(thing, BadGrouping(0)) for thing in (*not_sequences(), [], [1] + [0] * (count - 1), (-1,) * count)]
    for thing in [*not_wholes(), 2, -1]:
        if thing is not None or not gaps:
            found.append(([0, thing] + [0] * (count - 2), BadGrouping(1)))
    found += [([0] * (count - 1), BadGrouping(count - 1)), ((0,) * (count + 1), BadGrouping(count))]
    return found


def wrong_budgets():
    found = [(thing, BadBudget("couple")) for thing in [*not_sequences(), [], (1,), [1, 2, 3]]]
    found += [((thing, None), BadBudget("columns")) for thing in [*not_wholes(), -1, 7]]
    found += [([6, thing], BadBudget("rows")) for thing in [*not_wholes(), -1, 7]]
    return found + [(thing, BadBudget("many")) for thing in ((6, 3), [3, 6], (4, 5), (6, 6))]


def random_free(chance, height, width, places=None):
    return random_mould(chance, height, width, False, places)


# Things that are neither a whole number nor a ratio.
NO_NUMBERS = [True, False, 1.0, "1", [1, 2], (1, 0), (2, 4), (1, -2), (1,), (1, 2, 3), (True, 1), (1, True), object()]


def plain(value):
    """An object of the program as plain values that show each bool, list and tuple as such."""
    if type(value).__module__.startswith("thinslopes."):
        return (type(value).__name__, {name: plain(thing) for name, thing in vars(value).items()})
    if isinstance(value, (list, tuple)):
        return type(value)(plain(item) for item in value)
    return value


def holds_list(value):
    if type(value).__module__.startswith("thinslopes."):
        return any(holds_list(thing) for thing in vars(value).values())
    return isinstance(value, list) or (isinstance(value, tuple) and any(holds_list(item) for item in value))


class Case(unittest.TestCase):
    def same(self, result, expected):
        """Equal, with True unlike 1 and a list unlike a tuple."""
        self.assertEqual(repr(plain(result)), repr(plain(expected)))

    def gives(self, expected, call, *args, **named):
        before = repr(plain((args, tuple(named.items()))))
        self.same(call(*args, **named), expected)
        self.assertEqual(repr(plain((args, tuple(named.items())))), before)

    def taken(self, call, *args, **named):
        """What the call returns, checked to be made of tuples; what is passed in must stay as it is."""
        before = repr(plain((args, tuple(named.items()))))
        result = call(*args, **named)
        self.assertFalse(holds_list(result), msg=repr(plain(result)))
        self.assertEqual(repr(plain((args, tuple(named.items())))), before)
        return result

    def refuses_in_order(self, call, right, wrong):
        """Each wrong thing is told, and ahead of wrong things that are checked behind it.

        `wrong` has couples of a position among the arguments and the wrong things there with their errors, in the
        order in which they are checked.
        """
        for at, (position, things) in enumerate(wrong):
            for thing, error in things:
                args = list(right)
                args[position] = thing
                self.refuses(error, call, *args)
                for later, others in wrong[at + 1:]:
                    args[later] = others[0][0]
                self.refuses(error, call, *args)

    def refuses(self, expected, call, *args, **named):
        """The call raises exactly this error; an attribute may bear a tuple in the place of a list."""
        before = repr(plain((args, tuple(named.items()))))
        with self.assertRaises(type(expected), msg=repr((args, named))) as caught:
            call(*args, **named)
        self.assertIs(type(caught.exception), type(expected))
        self.assertEqual(
            [(name, untupled(value)) for name, value in vars(caught.exception).items()],
            [(name, untupled(value)) for name, value in vars(expected).items()],
            msg=repr((args, named)),
        )
        self.assertEqual(repr(plain((args, tuple(named.items())))), before)


def untupled(value):
    """Values that are alike but for lists and tuples become the same text; True stays unlike 1."""
    if isinstance(value, (list, tuple)):
        return "[" + ", ".join(untupled(item) for item in value) + "]"
    return repr(value)
