import itertools

from tests.helper import Case, gapped, not_sequences, not_wholes, numberings
from thinslopes.errors import BadCount, BadGrouping
from thinslopes.groupings import all_groupings, book_of, check_count, check_grouping, count_groupings, groups_many


class CheckGroupingTest(Case):
    """Point 1.5: check_grouping."""

    def wrong_at(self, right, grouping):
        """The index of the first item that cannot stand behind those before it."""
        for at in range(len(grouping)):
            if not any(repr(known[:at + 1]) == repr(grouping[:at + 1]) for known in right):
                return at
        return None

    def test_every_row_of_items(self):
        for gaps, right in ((False, numberings(4)), (True, gapped(4))):
            for length in range(5):
                for grouping in itertools.product((None, -1, 0, 1, 2, 3, 4), repeat=length):
                    wrong = self.wrong_at(right, grouping)
                    for count in (4, 2):
                        if wrong is not None:
                            self.refuses(BadGrouping(wrong), check_grouping, count, grouping, gaps)
                        elif length != count:
                            self.refuses(BadGrouping(min(length, count)), check_grouping, count, list(grouping), gaps)
                        else:
                            self.gives(grouping, check_grouping, count, grouping, gaps)
                            self.gives(grouping, check_grouping, count, list(grouping), gaps)

    def test_gaps_are_off_if_left_out(self):
        self.gives((0, 1, 0), check_grouping, 3, [0, 1, 0])
        self.refuses(BadGrouping(1), check_grouping, 3, [0, None, 0])
        self.refuses(BadGrouping(0), check_grouping, 3, [None, None, None])
        self.gives((0, None, 1), check_grouping, gaps=True, grouping=[0, None, 1], count=3)
        self.gives((None, None, None), check_grouping, 3, [None, None, None], True)

    def test_other_things(self):
        for gaps in (False, True):
            for thing in not_sequences():
                self.refuses(BadGrouping(0), check_grouping, 2, thing, gaps)
            for thing in [*not_wholes(), [0]]:
                if thing is not None:
                    for at in range(3):
                        grouping = [0, 1, 2]
                        grouping[at] = thing
                        self.refuses(BadGrouping(at), check_grouping, 3, grouping, gaps)

    def test_a_wrong_item_is_told_ahead_of_the_length(self):
        self.refuses(BadGrouping(3), check_grouping, 2, [0, 1, 2, 5])
        self.refuses(BadGrouping(1), check_grouping, 5, [0, 2])
        self.refuses(BadGrouping(2), check_grouping, 2, [0, 1, 2])
        self.refuses(BadGrouping(0), check_grouping, 3, [])

    def test_later_changes_have_no_effect(self):
        grouping = [0, 1, 0]
        checked = check_grouping(3, grouping)
        grouping[0] = 7
        self.same(checked, (0, 1, 0))


class AllGroupingsTest(Case):
    """Point 1.5: groups_many, check_count, count_groupings, all_groupings and book_of."""

    def test_groups_many(self):
        for grouping in [*numberings(4), *gapped(4), (), (None,), (0,)]:
            many = len({group for group in grouping if group is not None})
            self.gives(many, groups_many, grouping)
            self.gives(many, groups_many, list(grouping))

    def test_all_groupings_of_1_to_6_things(self):
        for count, many in zip(range(1, 7), (1, 2, 5, 15, 52, 203)):
            groupings = list(all_groupings(count))
            self.same(groupings, sorted(groupings))
            self.assertEqual(len(set(groupings)), many)
            self.gives(many, count_groupings, count)
            for grouping in groupings:
                self.same(check_grouping(count, grouping), grouping)
        for count in range(1, 6):
            self.same(list(all_groupings(count=count)), numberings(count))

    def test_all_groupings_is_a_generator(self):
        groupings = all_groupings(3)
        self.assertIs(iter(groupings), groupings)
        self.same([next(groupings), next(groupings)], [(0, 0, 0), (0, 0, 1)])

    def test_check_count(self):
        for count in range(1, 7):
            self.gives(count, check_count, count)

    def test_wrong_counts(self):
        for thing in [*not_wholes(), 0, -1, 7, [3]]:
            for call in (check_count, count_groupings, lambda count: list(all_groupings(count))):
                self.refuses(BadCount(thing), call, thing)

    def test_an_error_does_not_change_with_the_list_passed_in(self):
        count = [3]
        with self.assertRaises(BadCount) as caught:
            check_count(count)
        count.append(4)
        self.assertEqual(tuple(caught.exception.count), (3,))

    def test_book_of(self):
        self.gives((("column", (1, 0, 1)), ("column", (0, 1, 0))), book_of, [0, 1, 0])
        self.gives((("column", (0, 1, 0)), ("column", (0, 0, 1))), book_of, grouping=(None, 0, 1))
        self.gives((), book_of, ())
        self.gives((), book_of, [None, None])
        for grouping in [*numberings(5), *gapped(4)]:
            book = book_of(grouping)
            self.assertEqual(len(book), len({group for group in grouping if group is not None}))
            for group, (kind, numbers) in enumerate(book):
                self.assertEqual(kind, "column")
                self.same(numbers, tuple(1 if item == group else 0 for item in grouping))
