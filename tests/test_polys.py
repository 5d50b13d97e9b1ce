import itertools
import random

from tests.helper import Case, not_sequences, not_wholes
from thinslopes.errors import BadPoly, BadValues, NoEntry, UnlikePolys
from thinslopes.polys import Poly, check_values


def random_terms(chance, many, most=5, greatest=3):
    return [(tuple(chance.randint(0, greatest) for _ in range(many)), chance.randint(-4, 4))
            for _ in range(chance.randint(0, most))]


def some_couples():
    chance = random.Random(271)
    found = []
    for many in range(1, 5):
        for _ in range(15):
            found.append((Poly(many, random_terms(chance, many)), Poly(many, random_terms(chance, many))))
    return found


COUPLES = some_couples()


def wrong_values(many, error=BadValues):
    """Couples for `many` values, 1 or more."""
    found = [(thing, error(0)) for thing in [*not_sequences(), [], ()]]
    for thing in [*not_wholes(), 10 ** 9 + 1, -10 ** 9 - 1]:
        found += [([0] * (many - 1) + [thing], error(many - 1)), ((thing,) * (many + 1), error(0))]
        found.append(((0,) * many + (thing,), error(many)))
    return found + [([0] * (many + 2), error(many)), ((0,) * (many - 1), error(many - 1))]


def value_of(terms, values):
    total = 0
    for powers, number in terms:
        for power, value in zip(powers, values):
            number *= value ** power
        total += number
    return total


class CheckValuesTest(Case):
    """Point 9.2: check_values."""

    def test_right_values(self):
        for many in range(1, 5):
            for values in itertools.product((0, 3, -10 ** 9, 10 ** 9), repeat=many):
                self.gives(values, check_values, many, list(values))
        self.gives((1, -2), check_values, values=(1, -2), many=2)

    def test_wrong_values(self):
        for many in range(1, 5):
            self.refuses_in_order(check_values, (many, [0] * many), [(1, wrong_values(many))])


class PolyTest(Case):
    """Point 9.1."""

    def test_terms_in_any_order(self):
        chance = random.Random(272)
        for many in range(1, 5):
            for _ in range(20):
                terms = random_terms(chance, many, 8, 2)
                sums = {}
                for powers, number in terms:
                    sums[powers] = sums.get(powers, 0) + number
                right = tuple(sorted((powers, number) for powers, number in sums.items() if number != 0))
                for passed in (terms, tuple(terms), [[list(powers), number] for powers, number in reversed(terms)]):
                    poly = self.taken(Poly, many, passed)
                    self.same((poly.many, poly.terms), (many, right))

    def test_numbers_that_add_up_to_0(self):
        for terms in ([], (), [((1, 2), 0)], [((1, 2), 3), ((1, 2), -3)], [([0, 0], 1), ((0, 0), 4), ((0, 0), -5)]):
            self.same(Poly(2, terms).terms, ())
        self.same(Poly(terms=[((1,), 3), ((0,), 2), ((1,), -3)], many=1).terms, (((0,), 2),))

    def test_the_power_99(self):
        self.same(Poly(2, [((99, 99), 1)]).terms, (((99, 99), 1),))
        self.assertEqual(Poly(1, [((99,), -2)]).value_at([3]), -2 * 3 ** 99)

    def test_great_numbers(self):
        self.same(Poly(1, [((0,), 10 ** 40)]).terms, (((0,), 10 ** 40),))

    def test_later_changes_have_no_effect(self):
        terms = [[[1, 0], 2]]
        poly = Poly(2, terms)
        terms[0][0][0] = 5
        terms[0][1] = 7
        terms.append([[0, 0], 1])
        self.same(poly.terms, (((1, 0), 2),))

    def test_many(self):
        for thing in [*not_wholes(), 0, -1, 5]:
            self.refuses(BadPoly("many", 0), Poly, thing, [])
            self.refuses(BadPoly("many", 0), Poly, thing, None)

    def test_term(self):
        for thing in not_sequences():
            self.refuses(BadPoly("term", 0), Poly, 2, thing)
            self.refuses(BadPoly("term", 1), Poly, 2, [((0, 0), 1), thing])
        for thing in [(), [(0, 0)], ((0, 0), 1, 1)]:
            self.refuses(BadPoly("term", 2), Poly, 2, ([(1, 0), 1], ((0, 0), 1), thing))

    def test_powers(self):
        for thing in [*not_sequences(), (), (0,), [0, 0, 0], *[(0, bad) for bad in [*not_wholes(), -1, 100]]]:
            self.refuses(BadPoly("powers", 0), Poly, 2, [(thing, 1)])
            self.refuses(BadPoly("powers", 1), Poly, 2, [((0, 0), 1), [thing, 1]])

    def test_number(self):
        for thing in not_wholes():
            self.refuses(BadPoly("number", 0), Poly, 2, [((0, 0), thing)])
            self.refuses(BadPoly("number", 1), Poly, 2, [((0, 0), 1), [[99, 0], thing], None])

    def test_two_wrong_things_at_once(self):
        self.refuses(BadPoly("powers", 1), Poly, 2, [((0, 0), 1), (None, None), None])
        self.refuses(BadPoly("number", 0), Poly, 1, [((0,), None), (None, 1)])

    def test_equal_polys(self):
        one = Poly(2, [((0, 1), 2), ((1, 0), 3)])
        self.assertTrue(one == Poly(2, [[[1, 0], 1], [[0, 1], 2], [[1, 0], 2]]))
        self.assertFalse(one != Poly(2, [((1, 0), 3), ((0, 1), 2)]))
        for other in (Poly(2, [((0, 1), 2)]), Poly(2, [((0, 1), 2), ((1, 0), 4)]), one.terms, None, 0):
            self.assertFalse(one == other)
            self.assertTrue(one != other)
        self.assertFalse(Poly(1, []) == Poly(2, []))
        self.assertTrue(Poly(3, []) == Poly(3, ()))


class SumsAndProductsTest(Case):
    """Point 9.1: +, - and *."""

    def test_against_the_numbers_at_values(self):
        chance = random.Random(273)
        for one, other in COUPLES:
            plus, less, times = one + other, one - other, one * other
            for _ in range(4):
                values = [chance.randint(-5, 5) for _ in range(one.many)]
                first, second = one.value_at(values), other.value_at(values)
                self.assertEqual(plus.value_at(values), first + second)
                self.assertEqual(less.value_at(values), first - second)
                self.assertEqual(times.value_at(values), first * second)
            for poly in (plus, less, times):
                self.assertIsInstance(poly, Poly)
                self.same(Poly(poly.many, poly.terms).terms, poly.terms)
                self.assertEqual(poly.many, one.many)

    def test_rules(self):
        for one, other in COUPLES:
            zero, unit = Poly(one.many, []), Poly(one.many, [((0,) * one.many, 1)])
            self.assertTrue(one + other == other + one and one * other == other * one)
            self.assertTrue(one - one == zero and one + zero == one and zero - one + one == zero)
            self.assertTrue(one * zero == zero and one * unit == one)
            self.assertTrue((one + other) * (one - other) == one * one - other * other)

    def test_examples(self):
        x, y = Poly(2, [((1, 0), 1)]), Poly(2, [((0, 1), 1)])
        square = (x + y) * (x + y)
        self.same(square.terms, (((0, 2), 1), ((1, 1), 2), ((2, 0), 1)))
        self.same((x - y).terms, (((0, 1), -1), ((1, 0), 1)))
        self.same((x * x - x * x).terms, ())
        high = Poly(1, [((50,), 2)]) * Poly(1, [((49,), 3), ((0,), 1)])
        self.same(high.terms, (((50,), 2), ((99,), 6)))

    def test_nothing_is_changed(self):
        for one, other in COUPLES[:20]:
            before = (one.many, one.terms, other.many, other.terms)
            for _ in (one + other, one - other, one * other, one == other):
                self.same((one.many, one.terms, other.many, other.terms), before)

    def test_unlike_polys(self):
        for first, second in itertools.permutations(range(1, 5), 2):
            one, other = Poly(first, []), Poly(second, [])
            self.refuses(UnlikePolys(), lambda: one + other)
            self.refuses(UnlikePolys(), lambda: one - other)
            self.refuses(UnlikePolys(), lambda: one * other)


class ValueAtTest(Case):
    """Point 9.2: value_at."""

    def test_values(self):
        chance = random.Random(274)
        for poly, _ in COUPLES:
            for _ in range(4):
                values = [chance.choice((0, 1, -1, 2, 7, 10 ** 9)) for _ in range(poly.many)]
                self.gives(value_of(poly.terms, values), poly.value_at, values)
                self.gives(value_of(poly.terms, values), poly.value_at, values=tuple(values))

    def test_edges(self):
        self.gives(0, Poly(2, []).value_at, (5, 5))
        # 0 to the power 0 is 1.
        self.gives(3, Poly(2, [((0, 0), 3), ((1, 0), 4)]).value_at, [0, 9])
        self.gives(10 ** 54, Poly(1, [((6,), 1)]).value_at, [10 ** 9])

    def test_wrong_values(self):
        for many in range(1, 5):
            self.refuses_in_order(Poly(many, []).value_at, ((0,) * many,), [(0, wrong_values(many))])


class SlopeByTest(Case):
    """Point 9.2: slope_by."""

    def test_slopes(self):
        for poly, other in COUPLES:
            for entry in range(poly.many):
                slope = self.taken(poly.slope_by, entry)
                terms = [((*powers[:entry], powers[entry] - 1, *powers[entry + 1:]), number * powers[entry])
                         for powers, number in poly.terms if powers[entry]]
                self.assertTrue(slope == Poly(poly.many, terms))
                # The slope of a product, and the order of two slopes.
                product = (poly * other).slope_by(entry)
                self.assertTrue(product == slope * other + poly * other.slope_by(entry))
                for second in range(poly.many):
                    self.assertTrue(slope.slope_by(second) == poly.slope_by(second).slope_by(entry))

    def test_examples(self):
        poly = Poly(2, [((0, 0), 5), ((0, 3), 2), ((2, 1), -1), ((99, 0), 1)])
        self.same(poly.slope_by(0).terms, (((1, 1), -2), ((98, 0), 99)))
        self.same(poly.slope_by(entry=1).terms, (((0, 2), 6), ((2, 0), -1)))
        self.same(Poly(3, [((0, 0, 0), 7)]).slope_by(2).terms, ())
        self.same(Poly(1, []).slope_by(0).terms, ())

    def test_no_entries(self):
        for many in range(1, 5):
            for thing in [*not_wholes(), -1, many]:
                self.refuses(NoEntry(thing), Poly(many, []).slope_by, thing)
