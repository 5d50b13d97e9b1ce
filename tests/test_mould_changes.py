import itertools

from tests.helper import NO_CELLS, Case, all_moulds, not_sequences, not_wholes
from thinslopes.errors import BadCell, BadMould, BadOrder
from thinslopes.moulds import Mould

SHARED = Mould(2, 3, [(0, 0), (0, 2), (1, 1), (1, 2)], [0, 1, 0, 2])


def by_letters(mould):
    """The places of a mould, told apart by which of them share a letter; its numbering does not matter."""
    return {frozenset(mould.cells_of(letter)) for letter in range(mould.letters_many)}


class MouldChangesTest(Case):
    """Point 1.3: the methods that return a new mould. The constructor checks how their letters are numbered."""

    def changed(self, mould, height, width, classes, call, *args):
        before = repr(vars(mould)), repr(args)
        result = call(*args)
        self.assertIsNot(result, mould)
        self.assertIs(type(result), Mould)
        self.same(vars(Mould(result.height, result.width, result.cells, result.letters)), vars(result))
        self.assertEqual((result.height, result.width), (height, width))
        self.assertEqual(by_letters(result), {frozenset(places) for places in classes})
        self.assertEqual((repr(vars(mould)), repr(args)), before)

    def test_with_cell(self):
        for mould in all_moulds(2, 2):
            for cell in itertools.product(range(2), repeat=2):
                if cell in mould.cells:
                    self.refuses(BadCell(cell), mould.with_cell, cell)
                    self.refuses(BadCell(cell), mould.with_cell, list(cell))
                else:
                    self.changed(mould, 2, 2, [*by_letters(mould), [cell]], mould.with_cell, cell)
                    self.changed(mould, 2, 2, [*by_letters(mould), [cell]], mould.with_cell, list(cell))
        self.gives(
            Mould(2, 3, [(0, 0), (0, 1), (0, 2), (1, 1), (1, 2)], [0, 1, 2, 0, 3]), SHARED.with_cell, cell=[0, 1]
        )

    def test_a_free_mould_stays_free(self):
        self.same(Mould(1, 3, [(0, 1)]).with_cell((0, 0)).with_cell((0, 2)), Mould(1, 3, [(0, 0), (0, 1), (0, 2)]))

    def test_with_cell_refuses_no_cells(self):
        for thing in NO_CELLS:
            self.refuses(BadCell(thing), SHARED.with_cell, thing)

    def test_with_same(self):
        for mould in all_moulds(2, 2):
            for cell, other in itertools.product(mould.cells, repeat=2):
                joined = {*mould.cells_of(mould.letter_at(*cell)), *mould.cells_of(mould.letter_at(*other))}
                classes = [places for places in by_letters(mould) if not places & joined]
                self.changed(mould, 2, 2, [*classes, joined], mould.with_same, cell, other)
                self.changed(mould, 2, 2, [*classes, joined], mould.with_same, list(cell), list(other))
        self.gives(Mould(2, 3, SHARED.cells, [0, 0, 0, 1]), SHARED.with_same, other=[0, 2], cell=(1, 1))
        self.gives(Mould(2, 3, SHARED.cells, [0, 1, 0, 0]), SHARED.with_same, (1, 2), (0, 0))

    def test_one_place_twice_changes_nothing(self):
        for cell in SHARED.cells:
            self.gives(SHARED, SHARED.with_same, cell, list(cell))
        self.gives(SHARED, SHARED.with_same, (0, 0), (1, 1))

    def test_with_same_tells_the_first_that_is_no_place(self):
        for thing in [*NO_CELLS, (0, 1), [1, 0]]:
            self.refuses(BadCell(thing), SHARED.with_same, thing, (0, 0))
            self.refuses(BadCell(thing), SHARED.with_same, (0, 0), thing)
            self.refuses(BadCell(thing), SHARED.with_same, thing, "x")

    def test_without_cell(self):
        for mould in all_moulds(2, 2):
            for cell in itertools.product(range(2), repeat=2):
                if cell in mould.cells:
                    classes = [places - {cell} for places in by_letters(mould) if places != {cell}]
                    self.changed(mould, 2, 2, classes, mould.without_cell, cell)
                    self.changed(mould, 2, 2, classes, mould.without_cell, list(cell))
                else:
                    self.refuses(BadCell(cell), mould.without_cell, cell)
        self.gives(Mould(2, 3, SHARED.cells[1:], [0, 1, 2]), SHARED.without_cell, cell=(0, 0))

    def test_without_cell_refuses_what_is_no_place(self):
        for thing in [*NO_CELLS, (0, 1), [1, 0]]:
            self.refuses(BadCell(thing), SHARED.without_cell, thing)

    def test_an_error_does_not_change_with_the_list_passed_in(self):
        for call in (SHARED.with_cell, SHARED.without_cell, lambda cell: SHARED.with_same(cell, cell)):
            cell = [9, 9]
            with self.assertRaises(BadCell) as caught:
                call(cell)
            cell.append(9)
            self.assertEqual(tuple(caught.exception.cell), (9, 9))

    def test_turned(self):
        for mould in [*all_moulds(2, 2), *all_moulds(1, 3), SHARED]:
            classes = [[(column, row) for row, column in places] for places in by_letters(mould)]
            self.changed(mould, mould.width, mould.height, classes, mould.turned)
            self.assertTrue(mould.turned().turned() == mould)
        self.gives(Mould(3, 2, [(0, 0), (1, 1), (2, 0), (2, 1)], [0, 0, 1, 2]), SHARED.turned)

    def test_renamed(self):
        for mould in [*all_moulds(1, 3), SHARED]:
            for rows in itertools.permutations(range(mould.height)):
                for columns in itertools.permutations(range(3)):
                    classes = [[(rows[row], columns[column]) for row, column in places] for places in by_letters(mould)]
                    self.changed(mould, mould.height, 3, classes, mould.renamed, rows, columns)
                    self.changed(mould, mould.height, 3, classes, mould.renamed, list(rows), list(columns))
        self.gives(
            Mould(2, 3, [(0, 0), (0, 2), (1, 0), (1, 1)], [0, 1, 2, 1]),
            SHARED.renamed, columns=[1, 2, 0], rows=(1, 0),
        )

    def test_renamed_refuses_what_is_no_order(self):
        for thing in [*not_sequences(), [], [0], [0, 0], [1, 2], [0, 1, 2], (1, -1)]:
            self.refuses(BadOrder("rows"), SHARED.renamed, thing, [0, 1, 2])
            self.refuses(BadOrder("rows"), SHARED.renamed, thing, None)
        for thing in [*not_sequences(), [], [0, 1], [0, 1, 1], [0, 1, 3], [0, 1, 2, 3], (0, 1, -2)]:
            self.refuses(BadOrder("columns"), SHARED.renamed, [1, 0], thing)
        for wrong in not_wholes():
            self.refuses(BadOrder("rows"), SHARED.renamed, [0, wrong], [0, 1, 2])
            self.refuses(BadOrder("columns"), SHARED.renamed, [0, 1], [0, wrong, 2])

    def test_beside(self):
        moulds = [*all_moulds(1, 2), *all_moulds(2, 1), SHARED, Mould(4, 4, [(3, 3)])]
        for one, other in itertools.product(moulds, repeat=2):
            height, width = one.height + other.height, one.width + other.width
            if height <= 6 and width <= 6:
                moved = [[(row + one.height, column + one.width) for row, column in places]
                         for places in by_letters(other)]
                before = repr(vars(other))
                self.changed(one, height, width, [*by_letters(one), *moved], one.beside, other)
                self.assertEqual(repr(vars(other)), before)
        self.gives(
            Mould(3, 5, [*SHARED.cells, (2, 3), (2, 4)], [0, 1, 0, 2, 3, 3]),
            SHARED.beside, other=Mould(1, 2, [(0, 0), (0, 1)], [0, 0]),
        )

    def test_beside_refuses_sums_above_6(self):
        for height, width, high, wide in itertools.product((1, 3, 6), repeat=4):
            one, other = Mould(height, width, [(0, 0)]), Mould(high, wide, [(0, 0)])
            if height + high > 6:
                self.refuses(BadMould("height", 0), one.beside, other)
            elif width + wide > 6:
                self.refuses(BadMould("width", 0), one.beside, other)
            else:
                self.same(len(one.beside(other)), 2)
