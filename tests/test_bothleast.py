import inspect
import itertools
import random

from tests.helper import Case, gapped, lots, not_wholes, random_free
from tests.test_cores import SHARED
from thinslopes.bothbounds import both_bounds
from thinslopes.bothgroups import both_told, unread_cell
from thinslopes.bothleast import LeastBoth, all_gapped, fewest_read_by_both, fewest_told_by_both
from thinslopes.errors import BadCount, NotFree, TooMany
from thinslopes.groupings import check_grouping, groups_many
from thinslopes.groups import fewest_groups
from thinslopes.moulds import Mould


def key_of(grouping):
    return [-1 if group is None else group for group in grouping]


def some_moulds():
    chance = random.Random(151)
    found = [Mould(2, 3, lot) for lot in lots(list(itertools.product(range(2), range(3))))[::3]]
    for height, width in ((1, 6), (6, 1), (2, 5), (5, 2), (3, 4), (4, 3), (3, 3)):
        found += [random_free(chance, height, width, places) for places in (0.4, 0.7, 1)]
    return found


MOULDS = some_moulds()


class AllGappedTest(Case):
    """Point 6.13: all_gapped."""

    def test_all_groupings_with_gaps(self):
        for count in range(1, 7):
            found = list(all_gapped(count))
            self.same(found, sorted(found, key=key_of))
            self.assertEqual(len(set(found)), (2, 5, 15, 52, 203, 877)[count - 1])
            for grouping in found:
                self.same(check_grouping(count, grouping, True), grouping)
        for count in range(1, 5):
            self.same(sorted(all_gapped(count=count), key=key_of), sorted(gapped(count), key=key_of))

    def test_the_example(self):
        self.same(list(all_gapped(2)), [(None, None), (None, 0), (0, None), (0, 0), (0, 1)])

    def test_it_is_a_generator(self):
        self.assertTrue(inspect.isgeneratorfunction(all_gapped))

    def test_wrong_counts(self):
        for thing in [*not_wholes(), 0, -1, 7, [2]]:
            self.refuses(BadCount(thing), lambda count: list(all_gapped(count)), thing)


class FewestTest(Case):
    """Point 6.13: fewest_read_by_both and fewest_told_by_both."""

    def expected(self, mould, holds):
        """The first couple of groupings with the least number of groups, all gone through."""
        right = [
            (groups_many(rows) + groups_many(columns), key_of(rows), key_of(columns), rows, columns)
            for rows in gapped(mould.height) for columns in gapped(mould.width) if holds(mould, rows, columns) is None
        ]
        many, _, _, rows, columns = min(right, key=lambda couple: couple[:3])
        return LeastBoth(rows, columns, many)

    def test_against_all_groupings(self):
        for mould in MOULDS:
            self.gives(self.expected(mould, unread_cell), fewest_read_by_both, mould)
            self.gives(self.expected(mould, both_told), fewest_told_by_both, mould)

    def test_the_chain_of_bounds(self):
        for mould in MOULDS:
            read, told = fewest_read_by_both(mould).many, fewest_told_by_both(mould).many
            columns, rows = groups_many(fewest_groups(mould)), groups_many(fewest_groups(mould.turned()))
            self.assertTrue(both_bounds(mould).low <= told <= read <= min(columns, rows))

    def test_examples(self):
        square = Mould(2, 2, [(0, 0), (0, 1), (1, 0)])
        self.gives(LeastBoth((None, None), (0, 1), 2), fewest_read_by_both, square)
        self.gives(LeastBoth((None,) * 3, (None,) * 4, 0), fewest_read_by_both, Mould(3, 4, []))
        self.gives(LeastBoth((None,) * 3, (None,) * 4, 0), fewest_told_by_both, mould=Mould(3, 4, []))

    def test_too_many_lines(self):
        for height, width in ((1, 6), (6, 1), (3, 4), (4, 3)):
            self.assertEqual(fewest_read_by_both(Mould(height, width, [(0, 0)])).many, 1)
        for call in (fewest_read_by_both, fewest_told_by_both):
            for height, width in ((2, 6), (6, 2), (4, 4), (6, 6), (3, 5)):
                self.refuses(TooMany(height + width), call, Mould(height, width, []))
            self.refuses(NotFree(), call, SHARED)
            self.refuses(NotFree(), call, Mould(6, 6, [(0, 0), (5, 5)], [0, 0]))
