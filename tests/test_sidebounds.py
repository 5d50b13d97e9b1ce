import itertools
import random

from tests.helper import Case, random_book, random_web
from tests.test_floors import ALL_TIES, NO_TIES, RING, WEBS
from thinslopes.asks import power_asks
from thinslopes.evenwalks import Walk, walk_fault
from thinslopes.fewest import all_fewest, fewest_by, fewest_three
from thinslopes.floors import SideLot, least_floor, least_powers, side_floor
from thinslopes.groupings import book_of
from thinslopes.sidebounds import SideBounds, side_bounds
from thinslopes.sidegroups import side_told
from thinslopes.told import tells_all
from thinslopes.webs import Web


def bar(web, count):
    return side_told(web, (0,) * web.points) if count == 1 else side_floor(web, count)


def side_by_side(one, other):
    moved = [(i + one.points, j + one.points) for i, j in other.ties]
    return Web(one.points + other.points, [*one.ties, *moved])


class SideBoundsTest(Case):
    """Point 7.7."""

    def test_what_they_are(self):
        kinds = set()
        for web in WEBS:
            found = self.taken(side_bounds, web)
            self.assertIsInstance(found, SideBounds)
            self.assertEqual(found.low, min(count for count in range(7) if bar(web, count) is None))
            self.same(found.bars, tuple(bar(web, count) for count in range(found.low)))
            groups = fewest_by(web, "told").groups
            self.assertEqual(found.high, min(groups, least_powers(web)))
            grouped = groups == found.high
            right = book_of(fewest_by(web, "told").first) if grouped else power_asks("column", web.points, found.high)
            self.same(found.book, right)
            kinds.add((grouped, found.low == found.high))
        self.assertGreaterEqual(kinds, {(True, True), (True, False), (False, True)})

    def test_what_bars_the_counts(self):
        for web in WEBS:
            for count, thing in enumerate(side_bounds(web).bars):
                self.assertIsInstance(thing, Walk if count == 1 else SideLot)
                if count == 1:
                    self.assertIsNone(walk_fault(web, (0,) * web.points, thing))

    def test_the_book_tells_every_tie_and_none_of_fewer_than_low_asks_does(self):
        chance = random.Random(181)
        for web in WEBS:
            found = side_bounds(web)
            self.assertEqual(len(found.book), found.high)
            self.assertTrue(tells_all(web.as_mould(), found.book))
            for _ in range(4):
                for greatest in (1, 10):
                    book = random_book(chance, web.as_mould(), max(found.low - 1, 0), greatest)
                    self.assertEqual(tells_all(web.as_mould(), book) and len(book) < found.low, False)

    def test_the_order_of_the_numbers(self):
        for web in WEBS:
            found = side_bounds(web)
            self.assertLessEqual(least_floor(web), found.low)
            self.assertLessEqual(found.low, found.high)

    def test_a_walk_bars_one_ask_where_no_floor_does(self):
        """So low is above the least floor at times."""
        self.assertTrue([web for web in WEBS if least_floor(web) < side_bounds(web).low])
        ring = Web(4, [(0, 1), (0, 3), (1, 2), (2, 3)])
        self.assertEqual(least_floor(ring), 1)
        found = side_bounds(ring)
        self.same(found.bars, (SideLot((0, 1), 1, 0), Walk((0, 1, 2, 3, 0), (0, 0))))
        self.assertEqual((found.low, found.high), (2, 2))

    def test_without_ties_and_with_all_ties(self):
        for points in range(1, 7):
            self.gives(SideBounds(0, (), 0, ()), side_bounds, Web(points, []))
            every = Web(points, list(itertools.combinations_with_replacement(range(points), 2)))
            found = side_bounds(every)
            self.assertEqual((found.low, found.high, len(found.bars)), (points, points, points))
            self.same(found.book, book_of(tuple(range(points))))
        self.gives(SideBounds(0, (), 0, ()), side_bounds, web=NO_TIES)
        self.gives(SideBounds(1, (SideLot((0,), 1, 0),), 1, (("column", (1,)),)), side_bounds, Web(1, [(0, 0)]))

    def test_one_count_is_always_judged_by_the_walk(self):
        # The lot (0, 1) has too many ties for one ask, too; yet the bar is the walk.
        self.assertIsNotNone(side_floor(RING, 1))
        self.assertIsInstance(side_bounds(RING).bars[1], Walk)

    def test_webs_side_by_side(self):
        chance = random.Random(182)
        for _ in range(25):
            one = random_web(chance, chance.randint(1, 3), 0.6)
            other = random_web(chance, chance.randint(1, 3), 0.6)
            both = side_by_side(one, other)
            if one.ties and other.ties:
                for number, first, second in zip(fewest_three(both), fewest_three(one), fewest_three(other)):
                    self.assertEqual(number, max(first, second))
            self.assertEqual(least_floor(both), max(least_floor(one), least_floor(other)))
            self.assertEqual(least_powers(both), max(least_powers(one), least_powers(other)))
            self.assertEqual(side_bounds(both).low, max(side_bounds(one).low, side_bounds(other).low))

    def test_the_example_of_point_7_13(self):
        found = side_bounds(RING)
        self.assertEqual((found.low, found.high), (3, 3))
        self.same(found.bars[0], SideLot((0,), 1, 0))
        self.assertIsInstance(found.bars[1], Walk)
        self.same(found.bars[2], SideLot((0, 1, 2, 3), 8, 7))
        self.assertEqual(len(found.bars), 3)
        self.same(found.book, book_of((0, 1, 0, 2)))
        for way in ("read", "taken", "told"):
            self.same(list(all_fewest(RING, way)), [(0, 1, 0, 2), (0, 1, 2, 1)])

    def test_all_ties_of_six_points(self):
        found = side_bounds(ALL_TIES)
        self.assertEqual([type(thing) for thing in found.bars], [SideLot, Walk] + [SideLot] * 4)
