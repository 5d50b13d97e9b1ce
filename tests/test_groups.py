import inspect
import itertools
import random

from tests.helper import Case, gapped, is_told, lots, random_mould, wrong_groupings
from thinslopes.asks import span_rows
from thinslopes.errors import BadGrouping, NotFree
from thinslopes.groupings import book_of
from thinslopes.groups import (
    Meeting, Missing, fewest_groups, grouped_letters, grouped_told, least_groupings,
)
from thinslopes.moulds import Mould
from thinslopes.told import told_letters

SHARED = Mould(2, 2, [(0, 0), (0, 1), (1, 1)], [0, 1, 0])
ARROW = Mould(3, 3, [(0, 0), (0, 1), (0, 2), (1, 1), (2, 2)])


def free_moulds():
    cells = list(itertools.product(range(2), range(3)))
    chance = random.Random(61)
    found = [Mould(2, 3, lot) for lot in lots(cells)]
    found += [random_mould(chance, chance.randint(2, 6), chance.randint(3, 4), False, 0.4) for _ in range(25)]
    return found


MOULDS = free_moulds()


class GroupedTest(Case):
    """Points 3.1 to 3.4: grouped_told and grouped_letters."""

    def expected(self, mould, grouping):
        """By the words of point 3.3."""
        used = sorted({column for row, column in mould.cells})
        for column in used:
            if grouping[column] is None:
                return Missing(column)
        for row in range(mould.height):
            for first, second in itertools.combinations(range(mould.width), 2):
                if grouping[first] is not None and grouping[first] == grouping[second]:
                    if (row, first) in mould.cells and (row, second) in mould.cells:
                        return Meeting(row, first, second)
        return None

    def test_against_what_the_book_tells(self):
        for mould in MOULDS:
            for grouping in gapped(mould.width)[::2]:
                told = told_letters(mould, book_of(grouping))
                self.gives(told, grouped_letters, mould, list(grouping))
                result = self.expected(mould, grouping)
                self.gives(result, grouped_told, mould, grouping)
                self.assertIs(result is None, len(told) == mould.letters_many)

    def test_examples(self):
        self.gives(Meeting(0, 0, 1), grouped_told, ARROW, [0, 0, 0])
        self.gives(Meeting(0, 1, 2), grouped_told, grouping=(0, 1, 1), mould=ARROW)
        self.gives(Missing(1), grouped_told, ARROW, [0, None, None])
        self.gives(Missing(2), grouped_told, ARROW, (0, 0, None))
        self.gives(None, grouped_told, ARROW, (0, 1, 2))
        self.gives((3, 4), grouped_letters, ARROW, [0, 0, 0])
        self.gives((0, 3, 4), grouped_letters, grouping=(0, 1, 1), mould=ARROW)
        self.gives((), grouped_letters, ARROW, (None, None, None))

    def test_columns_without_places(self):
        mould = Mould(2, 3, [(0, 0), (1, 2)])
        for grouping in ((0, None, 0), (0, 0, 0), (0, 1, 2), (0, 0, 1)):
            self.gives(None, grouped_told, mould, grouping)
            self.gives((0, 1), grouped_letters, mould, grouping)
        self.gives(Missing(0), grouped_told, mould, [None, 0, 0])
        self.gives((1,), grouped_letters, mould, [None, 0, 0])

    def test_a_mould_without_places(self):
        mould = Mould(2, 3, [])
        for grouping in gapped(3):
            self.gives(None, grouped_told, mould, grouping)
            self.gives((), grouped_letters, mould, grouping)

    def test_the_least_row_and_the_first_couple_there(self):
        mould = Mould(3, 4, [(0, 0), (1, 1), (1, 3), (2, 0), (2, 1), (2, 2)])
        self.gives(Meeting(1, 1, 3), grouped_told, mould, [0, 0, 0, 0])
        self.gives(Meeting(2, 0, 2), grouped_told, mould, [0, 1, 0, 2])

    def test_the_answer_of_row_and_group_is_the_letter(self):
        for mould in MOULDS[:64:3]:
            for grouping in gapped(3):
                rows = span_rows(mould, book_of(grouping))
                for letter in grouped_letters(mould, grouping):
                    row, column = mould.cells[letter]
                    answer = rows[grouping[column] * mould.height + row]
                    self.assertEqual(answer, tuple(1 if at == letter else 0 for at in range(len(mould))))
                    self.assertTrue(is_told(mould, rows, letter))

    def test_wrong_arguments(self):
        wrong = wrong_groupings(3, True) + [([None, 1, 0], BadGrouping(1)), ([0, 2, 1], BadGrouping(1))]
        for call in (grouped_told, grouped_letters):
            self.refuses_in_order(call, (ARROW, [0, 1, 2]), [(1, wrong)])

    def test_moulds_that_are_not_free(self):
        for call in (grouped_told, grouped_letters):
            self.refuses(NotFree(), call, SHARED, [0, 1])
            self.refuses(NotFree(), call, SHARED, (None, None))
            self.refuses(BadGrouping(0), call, SHARED, None)
            self.refuses(BadGrouping(1), call, SHARED, [0])


class LeastGroupingsTest(Case):
    """Point 3.5: least_groupings and fewest_groups."""

    def expected(self, mould):
        """All good groupings with the least number of groups, gone through one by one."""
        used = {column for row, column in mould.cells}
        good = [
            grouping for grouping in gapped(mould.width)
            if {column for column in range(mould.width) if grouping[column] is not None} == used
            and grouped_told(mould, grouping) is None
        ]
        many = [len(set(grouping) - {None}) for grouping in good]
        least = [grouping for grouping, number in zip(good, many) if number == min(many)]
        return sorted(least, key=lambda grouping: [-1 if group is None else group for group in grouping])

    def test_against_all_groupings(self):
        for mould in MOULDS:
            expected = self.expected(mould)
            self.same(list(least_groupings(mould)), expected)
            self.gives(expected[0], fewest_groups, mould)

    def test_examples(self):
        self.gives((0, 1, 2), fewest_groups, ARROW)
        self.gives((0, 1, 1), fewest_groups, Mould(2, 3, [(0, 0), (0, 1), (1, 0), (1, 2)]))
        mould = Mould(2, 4, [(0, 0), (0, 3), (1, 1)])
        self.same(list(least_groupings(mould=mould)), [(0, 0, None, 1), (0, 1, None, 1)])

    def test_a_mould_without_places(self):
        for width in range(1, 7):
            self.same(list(least_groupings(Mould(2, width, []))), [(None,) * width])
            self.gives((None,) * width, fewest_groups, mould=Mould(2, width, []))

    def test_full_tables(self):
        for width in range(1, 7):
            full = Mould(6, width, list(itertools.product(range(6), range(width))))
            self.same(list(least_groupings(full)), [tuple(range(width))])
        sparse = Mould(6, 6, [(row, row) for row in range(6)])
        self.same(list(least_groupings(sparse)), [(0,) * 6])

    def test_it_is_a_generator(self):
        self.assertTrue(inspect.isgeneratorfunction(least_groupings))
        self.assertEqual(next(least_groupings(ARROW)), (0, 1, 2))

    def test_moulds_that_are_not_free(self):
        self.refuses(NotFree(), fewest_groups, SHARED)
        self.refuses(NotFree(), lambda mould: next(least_groupings(mould)), SHARED)
