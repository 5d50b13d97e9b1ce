import inspect
import itertools
import random

from tests.helper import Case, all_webs, numberings, random_web, wrong_groupings
from thinslopes.errors import BadGrouping, BadWay
from thinslopes.fewest import FewestGroups, all_fewest, fewest_by, fewest_fault, fewest_three, holds_way
from thinslopes.groupings import all_groupings, book_of, groups_many
from thinslopes.pieces import all_pieces, odd_ring
from thinslopes.reading import side_read
from thinslopes.sidegroups import side_told
from thinslopes.taking import taken_wholly
from thinslopes.told import tells_all
from thinslopes.webs import Web

WAYS = ("read", "taken", "told")
WRONG_WAYS = [(thing, BadWay(thing)) for thing in ("", "Read", "reads", "tell", b"read", None, 0, True, ["read"], ())]
# A ring of four points with all diagonals.
RING = Web(4, [(0, 0), (0, 1), (0, 3), (1, 1), (1, 2), (2, 2), (2, 3), (3, 3)])
ALL_TIES = Web(6, list(itertools.combinations_with_replacement(range(6), 2)))


def holds(web, way, grouping):
    mould, book = web.as_mould(), book_of(grouping)
    if way == "read":
        return side_read(web, grouping)
    return taken_wholly(mould, book).missing == () if way == "taken" else tells_all(mould, book)


def some_webs():
    chance = random.Random(161)
    found = all_webs(2) + all_webs(3)[::2]
    for points, ties in ((4, 0.3), (4, 0.6), (5, 0.3), (5, 0.8)):
        found += [random_web(chance, points, ties) for _ in range(4)]
    for points in range(3, 6):
        path = [(at, at + 1) for at in range(points - 1)]
        found += [Web(points, path), Web(points, sorted([*path, (0, points - 1)]))]
        found += [Web(points, [(0, at) for at in range(1, points)]), Web(points, [(0, at) for at in range(points)])]
    return found


WEBS = some_webs()


class HoldsWayTest(Case):
    """Point 7.1."""

    def test_each_way(self):
        seen = set()
        for web in WEBS:
            for grouping in list(all_groupings(web.points))[::1 if web.points < 5 else 6]:
                for way in WAYS:
                    right = holds(web, way, grouping)
                    self.gives(right, holds_way, web, way, list(grouping))
                    seen.add((way, right))
        self.assertEqual(len(seen), 6)

    def test_the_rules_for_all_webs(self):
        for web in WEBS[::2]:
            for grouping in list(all_groupings(web.points))[::3]:
                pieces = all_pieces(web, grouping)
                rings = [odd_ring(web, piece) for piece in pieces]
                taken = side_told(web, grouping) is None and all(ring is None or len(ring) == 1 for ring in rings)
                self.assertIs(holds_way(web, "taken", grouping), taken)

                def joined(point, group):
                    return [tie for tie in web.ties if point in tie and grouping[sum(tie) - point] == group]

                read = all(len(joined(one, grouping[other])) == 1 or len(joined(other, grouping[one])) == 1
                           for one, other in web.ties)
                self.assertIs(holds_way(web, "read", grouping), read)

    def test_examples(self):
        triangle = Web(3, [(0, 1), (0, 2), (1, 2)])
        self.same([holds_way(triangle, way, (0, 0, 0)) for way in WAYS], [False, False, True])
        self.gives(True, holds_way, grouping=[0, 0, 1], way="taken", web=triangle)
        self.same([holds_way(Web(3, [(0, 0), (0, 1), (1, 2)]), way, (0, 0, 0)) for way in WAYS], [False, True, True])
        for way in WAYS:
            self.gives(True, holds_way, Web(3, []), way, (0, 0, 0))
            self.gives(True, holds_way, ALL_TIES, way, (0, 1, 2, 3, 4, 5))
            self.gives(False, holds_way, ALL_TIES, way, (0, 0, 0, 0, 0, 0))

    def test_errors(self):
        self.refuses_in_order(holds_way, (RING, "told", (0, 0, 0, 0)), [(1, WRONG_WAYS), (2, wrong_groupings(4))])


class FewestByTest(Case):
    """Point 7.2."""

    def test_against_all_groupings(self):
        for web in WEBS:
            three = []
            for way in WAYS:
                right = [grouping for grouping in numberings(web.points) if holds(web, way, grouping)]
                least = min(groups_many(grouping) for grouping in right)
                right = [grouping for grouping in right if groups_many(grouping) == least]
                self.gives(FewestGroups(least, right[0], len(right)), fewest_by, web, way)
                self.same(list(all_fewest(web, way)), right)
                three.append(least)
            self.gives(tuple(three), fewest_three, web)
            self.assertEqual(three, sorted(three, reverse=True))

    def test_the_ring_of_point_7_13(self):
        for way in WAYS:
            self.gives(FewestGroups(3, (0, 1, 0, 2), 2), fewest_by, RING, way)
            self.same(list(all_fewest(way=way, web=RING)), [(0, 1, 0, 2), (0, 1, 2, 1)])
        self.gives((3, 3, 3), fewest_three, web=RING)

    def test_webs_without_ties_and_with_all_ties(self):
        for points in range(1, 7):
            for way in WAYS:
                self.gives(FewestGroups(1, (0,) * points, 1), fewest_by, Web(points, []), way)
                every = Web(points, list(itertools.combinations_with_replacement(range(points), 2)))
                self.gives(FewestGroups(points, tuple(range(points)), 1), fewest_by, every, way)
            self.gives((1, 1, 1), fewest_three, Web(points, []))
        self.gives((6, 6, 6), fewest_three, ALL_TIES)

    def test_rings_paths_and_stars_of_six_points(self):
        path = Web(6, [(at, at + 1) for at in range(5)])
        star = Web(6, [(0, at) for at in range(1, 6)])
        ring = Web(6, [(0, 1), (0, 5), (1, 2), (2, 3), (3, 4), (4, 5)])
        self.gives((1, 1), lambda web: fewest_three(web)[1:], path)
        self.gives((1, 1, 1), fewest_three, star)
        for web in (path, star, ring):
            for way, least in zip(WAYS, fewest_three(web)):
                groupings = list(all_fewest(web, way))
                self.assertTrue(all(holds(web, way, grouping) for grouping in groupings))
                fewer = [grouping for grouping in all_groupings(6) if groups_many(grouping) < least]
                self.assertFalse(any(holds(web, way, grouping) for grouping in fewer))

    def test_it_is_a_generator(self):
        self.assertTrue(inspect.isgeneratorfunction(all_fewest))

    def test_errors(self):
        for call in (fewest_by, lambda web, way: list(all_fewest(web, way))):
            self.refuses_in_order(call, (RING, "told"), [(1, WRONG_WAYS)])


class FewestFaultTest(Case):
    """Point 7.2: fewest_fault."""

    def test_each_grouping(self):
        words = set()
        for web in WEBS[::2]:
            for way in WAYS:
                least = list(all_fewest(web, way))
                for grouping in list(all_groupings(web.points))[::1 if web.points < 5 else 5]:
                    word = "way" if not holds(web, way, grouping) else None if grouping in least else "more"
                    self.gives(word, fewest_fault, web, way, list(grouping))
                    words.add(word)
        self.assertEqual(words, {None, "way", "more"})

    def test_grouping(self):
        for thing, error in wrong_groupings(4):
            self.assertIs(type(error), BadGrouping)
            self.gives("grouping", fewest_fault, RING, "told", thing)
        self.gives("grouping", fewest_fault, RING, "told", (0, 0, 0, 2))

    def test_way_and_more(self):
        self.gives("way", fewest_fault, RING, "told", (0, 0, 0, 0))
        self.gives("more", fewest_fault, grouping=(0, 1, 2, 3), way="read", web=RING)
        self.gives(None, fewest_fault, RING, "read", (0, 1, 2, 1))
        self.gives("more", fewest_fault, Web(2, []), "taken", (0, 1))

    def test_two_words_at_once(self):
        # All in one group are fewer than suffice; a wrong item stands ahead of that.
        self.gives("grouping", fewest_fault, RING, "told", (0, 0, 0, True))
        many = Web(4, [(0, 1), (0, 2), (1, 2)])
        self.gives("way", fewest_fault, many, "read", (0, 0, 0, 1))

    def test_errors(self):
        self.refuses_in_order(fewest_fault, (RING, "told", None), [(1, WRONG_WAYS)])
