import itertools
import random

from tests.helper import Case, all_webs, not_wholes, random_web, wrong_groupings
from thinslopes.errors import NoGroup
from thinslopes.groupings import all_groupings
from thinslopes.pieces import Piece, all_pieces, has_odd_ring, odd_ring, pieces_between, two_sides
from thinslopes.webs import Web

ALL_TIES = Web(6, list(itertools.combinations_with_replacement(range(6), 2)))


def some_cases():
    chance = random.Random(81)
    cases = [(web, grouping) for web in all_webs(3) for grouping in all_groupings(3)]
    for _ in range(40):
        web = random_web(chance, chance.randint(4, 6), chance.random())
        cases += [(web, grouping) for grouping in chance.sample(list(all_groupings(web.points)), 4)]
    return cases


CASES = some_cases()


def groups_of(grouping, tie):
    return tuple(sorted((grouping[tie[0]], grouping[tie[1]])))


def couples(grouping):
    return list(itertools.combinations_with_replacement(range(max(grouping) + 1), 2))


def expected_pieces(web, grouping, couple):
    """The pieces of a couple of groups, by joining the points of each tie."""
    lots = [{point} for point in range(web.points) if grouping[point] in couple]
    numbers = [number for number, tie in enumerate(web.ties) if groups_of(grouping, tie) == couple]
    for number in numbers:
        met = [lot for lot in lots if lot & set(web.ties[number])]
        lots = [lot for lot in lots if lot not in met] + [set().union(*met)]
    return tuple(
        Piece(tuple(sorted(lot)), tuple(number for number in numbers if set(web.ties[number]) <= lot), couple)
        for lot in sorted(lots, key=min)
    )


def odd_rings(web, piece):
    """All odd rings of a piece, each once, as point 4.3 writes them."""
    ties = {web.ties[number] for number in piece.ties}
    found = []
    for length in (1, 3, 5):
        for points in itertools.permutations(piece.points, length):
            steps = zip(points, (*points[1:], points[0]))
            if all((min(step), max(step)) in ties for step in steps) and points[0] == min(points):
                if length == 1 or points[1] < points[-1]:
                    found.append(points)
    return found


class PiecesTest(Case):
    """Points 4.1 and 4.2."""

    def test_pieces(self):
        for web, grouping in CASES:
            expected = []
            for one, two in couples(grouping):
                pieces = expected_pieces(web, grouping, (one, two))
                self.gives(pieces, pieces_between, web, grouping, one, two)
                self.gives(pieces, pieces_between, web, list(grouping), two, one)
                expected.extend(pieces)
            self.gives(tuple(expected), all_pieces, web, grouping)

    def test_examples(self):
        web = Web(4, [(0, 0), (0, 1), (0, 2), (1, 2)])
        self.gives((Piece((0, 2), (0, 2), (0, 0)),), pieces_between, web, (0, 1, 0, 1), 0, 0)
        self.gives((Piece((1,), (), (1, 1)), Piece((3,), (), (1, 1))), pieces_between, web, (0, 1, 0, 1), 1, 1)
        between = (Piece((0, 1, 2), (1, 3), (0, 1)), Piece((3,), (), (0, 1)))
        self.gives(between, pieces_between, two=0, one=1, grouping=[0, 1, 0, 1], web=web)
        self.gives((Piece((0,), (), (0, 0)),), all_pieces, grouping=[0], web=Web(1, []))

    def test_webs_without_ties_and_with_all_ties(self):
        for grouping in all_groupings(6):
            pieces = self.taken(all_pieces, Web(6, []), grouping)
            self.assertTrue(all(len(piece.points) == 1 and piece.ties == () for piece in pieces))
            self.assertEqual(len(pieces), 6 * (max(grouping) + 1))
            pieces = all_pieces(ALL_TIES, grouping)
            self.assertEqual([piece.groups for piece in pieces], couples(grouping))
            self.assertEqual(sorted(number for piece in pieces for number in piece.ties), list(range(21)))

    def test_no_group(self):
        web = Web(3, [(0, 1)])
        for thing in [*not_wholes(), -1, 2, [0]]:
            self.refuses(NoGroup(thing), pieces_between, web, (0, 1, 0), thing, 1)
            self.refuses(NoGroup(thing), pieces_between, web, (0, 1, 0), 0, thing)
            self.refuses(NoGroup(thing), pieces_between, web, (0, 1, 0), thing, -7)

    def test_groupings_are_told_first(self):
        wrong = [(1, wrong_groupings(3)), (2, [(5, NoGroup(5))]), (3, [(True, NoGroup(True))])]
        self.refuses_in_order(pieces_between, (Web(3, [(0, 1)]), [0, 1, 0], 0, 1), wrong)
        self.refuses_in_order(all_pieces, (Web(3, [(0, 1)]), [0, 1, 0]), wrong[:1])


class RingsTest(Case):
    """Point 4.3."""

    def test_the_first_of_the_shortest_odd_rings(self):
        lengths = set()
        for web, grouping in CASES:
            for piece in all_pieces(web, grouping):
                rings = odd_rings(web, piece)
                expected = min(rings, key=lambda ring: (len(ring), ring)) if rings else None
                self.gives(expected, odd_ring, web, piece)
                self.gives(expected is not None, has_odd_ring, web, piece)
                lengths.add(expected and len(expected))
                if piece.groups[0] != piece.groups[1]:
                    self.assertIsNone(expected)
        self.assertLessEqual({None, 1, 3}, lengths)

    def test_rings_of_each_length(self):
        for points in range(3, 7):
            ring = Web(points, sorted([(at, at + 1) for at in range(points - 1)] + [(0, points - 1)]))
            piece = all_pieces(ring, (0,) * points)[0]
            self.gives(tuple(range(points)) if points % 2 else None, odd_ring, ring, piece)
            self.gives(points % 2 == 1, has_odd_ring, ring, piece)
        ring = Web(6, [(1, 3), (1, 4), (2, 3), (2, 5), (4, 5)])
        self.gives((1, 3, 2, 5, 4), odd_ring, ring, all_pieces(ring, (0,) * 6)[1])
        self.gives((0,), odd_ring, ALL_TIES, all_pieces(ALL_TIES, (0,) * 6)[0])
        loops = Web(3, [(0, 1), (0, 2), (1, 2), (2, 2)])
        self.gives((2,), odd_ring, web=loops, piece=all_pieces(loops, (0, 0, 0))[0])

    def test_two_sides(self):
        kinds = set()
        for web, grouping in CASES:
            for piece in all_pieces(web, grouping):
                sides = self.taken(two_sides, web, piece)
                self.assertIs(sides is None, bool(odd_rings(web, piece)))
                kinds.add(sides is None)
                if sides is not None:
                    one, two = sides
                    self.assertEqual((one, two), (tuple(sorted(one)), tuple(sorted(two))))
                    self.assertEqual(tuple(sorted(one + two)), piece.points)
                    self.assertIn(piece.points[0], one)
                    for number in piece.ties:
                        self.assertEqual(len(set(web.ties[number]) & set(one)), 1)
                        self.assertEqual(len(set(web.ties[number]) & set(two)), 1)
        self.assertEqual(kinds, {True, False})

    def test_pieces_of_one_point(self):
        single = all_pieces(Web(2, [(1, 1)]), (0, 0))
        self.gives(((0,), ()), two_sides, Web(2, [(1, 1)]), single[0])
        self.gives(None, odd_ring, Web(2, [(1, 1)]), single[0])
        self.gives(None, two_sides, web=Web(2, [(1, 1)]), piece=single[1])
        self.gives((1,), odd_ring, Web(2, [(1, 1)]), single[1])
