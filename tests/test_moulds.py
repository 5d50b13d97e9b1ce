import itertools

from tests.helper import NO_CELLS, Case, all_moulds, as_fraction, lots, not_sequences, not_wholes, numberings
from thinslopes.errors import BadLetter, BadMould, BadNumbers
from thinslopes.moulds import Mould, check_letter, check_numbers, is_couple, is_order

SHARED = Mould(2, 3, [(0, 0), (0, 2), (1, 1), (1, 2)], [0, 1, 0, 2])
NO_NUMBERS = [
    None, True, False, "1", 1.0, (2, 4), (1, 0), (1, -1), [1, 2], (1,), (1, 2, 3), (True, 1), ((1, 1), (1, 1)), object(),
]


class CoupleTest(Case):
    """Points 1.2 and 1.3: is_couple and is_order."""

    def test_cells_of_a_table(self):
        for row, column in itertools.product(range(-2, 5), repeat=2):
            fits = 0 <= row < 2 and 0 <= column < 3
            self.gives(fits, is_couple, (row, column), 2, 3)
            self.gives(fits, is_couple, [row, column], 2, 3)

    def test_other_things_are_no_cells(self):
        for thing in NO_CELLS:
            self.assertIs(is_couple(thing, 2, 3), False, repr(thing))

    def test_orders(self):
        for many in range(4):
            for length in range(5):
                for order in itertools.product(range(-1, 5), repeat=length):
                    fits = sorted(order) == list(range(many))
                    self.gives(fits, is_order, order, many)
                    self.gives(fits, is_order, list(order), many)

    def test_other_things_are_no_orders(self):
        for thing in not_sequences():
            self.assertIs(is_order(thing, 2), False, repr(thing))
        for wrong in [*not_wholes(), None]:
            self.assertIs(is_order([0, wrong], 2), False, repr(wrong))
            self.assertIs(is_order((wrong, 1), 2), False, repr(wrong))


class MouldTest(Case):
    """Point 1.2."""

    def test_attributes_are_made_of_tuples(self):
        mould = Mould(2, 3, [[0, 0], (0, 2), [1, 1], [1, 2]], [0, 1, 0, 2])
        self.same(vars(mould), vars(SHARED))
        self.same(mould.cells, ((0, 0), (0, 2), (1, 1), (1, 2)))
        self.same(mould.letters, (0, 1, 0, 2))
        self.same((mould.height, mould.width), (2, 3))

    def test_arguments_by_name(self):
        self.gives(SHARED, Mould, letters=SHARED.letters, cells=SHARED.cells, width=3, height=2)

    def test_without_letters_each_place_has_its_own(self):
        cells = ((0, 0), (0, 1), (1, 0))
        for mould in (Mould(2, 2, cells), Mould(2, 2, cells, None), Mould(2, 2, cells, letters=None)):
            self.same(mould.letters, (0, 1, 2))
            self.assertIs(mould.free, True)

    def test_a_mould_with_no_place(self):
        for mould in (Mould(1, 6, []), Mould(1, 6, (), ()), Mould(1, 6, [], None)):
            self.same((mould.cells, mould.letters, len(mould), mould.letters_many, mould.free), ((), (), 0, 0, True))
            self.same(list(mould), [])

    def test_heights_and_widths_from_1_to_6(self):
        for height, width in itertools.product(range(1, 7), repeat=2):
            cells = tuple(itertools.product(range(height), range(width)))
            mould = Mould(height, width, cells)
            self.same((mould.height, mould.width, mould.cells), (height, width, cells))

    def test_wrong_heights_and_widths(self):
        for thing in [*not_wholes(), 0, -1, 7, 100]:
            self.refuses(BadMould("height", 0), Mould, thing, 2, [])
            self.refuses(BadMould("width", 0), Mould, 2, thing, [])

    def test_cells_that_are_no_sequence(self):
        for thing in not_sequences():
            self.refuses(BadMould("cell", 0), Mould, 2, 2, thing)

    def test_a_thing_that_is_no_cell(self):
        for thing in NO_CELLS:
            self.refuses(BadMould("cell", 0), Mould, 2, 3, [thing])
            self.refuses(BadMould("cell", 2), Mould, 2, 3, [(0, 0), (0, 1), thing, (1, 1)])

    def test_cells_that_do_not_ascend(self):
        self.refuses(BadMould("cell", 1), Mould, 2, 2, [(0, 1), (0, 1)])
        self.refuses(BadMould("cell", 1), Mould, 2, 2, [(0, 1), [0, 1]])
        self.refuses(BadMould("cell", 1), Mould, 2, 2, [(0, 1), (0, 0)])
        self.refuses(BadMould("cell", 2), Mould, 2, 2, ((0, 0), (1, 0), (0, 1), (0, 0)))

    def test_the_first_wrong_cell_is_told(self):
        self.refuses(BadMould("cell", 1), Mould, 2, 2, [(0, 1), (0, 0), "x", None])
        self.refuses(BadMould("cell", 1), Mould, 2, 2, [(0, 1), "x", (0, 0)])

    def test_letters_that_are_no_sequence_of_as_many_things(self):
        for thing in [*not_sequences()[1:], [], [0], [0, 1, 2], ()]:
            self.refuses(BadMould("letter", 0), Mould, 2, 2, [(0, 0), (0, 1)], thing)
        self.refuses(BadMould("letter", 0), Mould, 2, 2, [(0, 0), (0, 1)], [0, 5, 0])
        self.refuses(BadMould("letter", 0), Mould, 2, 2, [], [0])

    def test_letters_are_numbered_by_first_appearance(self):
        cells = [(0, 0), (0, 1), (1, 0), (1, 1)]
        right = numberings(4)
        for letters in itertools.product(range(-1, 5), repeat=4):
            if letters in right:
                self.same(Mould(2, 2, cells, list(letters)).letters, letters)
            else:
                wrong = [at for at in range(4) if not any(known[:at + 1] == letters[:at + 1] for known in right)]
                self.refuses(BadMould("letter", wrong[0]), Mould, 2, 2, cells, letters)

    def test_letters_that_are_no_whole_numbers(self):
        cells = [(0, 0), (0, 1), (1, 0)]
        for thing in [*not_wholes(), [0]]:
            for at in range(3):
                letters = [0, 1, 2]
                letters[at] = thing
                self.refuses(BadMould("letter", at), Mould, 2, 2, cells, letters)
                self.refuses(BadMould("letter", at), Mould, 2, 2, cells, tuple(letters))

    def test_arguments_are_checked_in_their_order(self):
        self.refuses(BadMould("height", 0), Mould, 7, 0, None, 5)
        self.refuses(BadMould("width", 0), Mould, 1, True, [5], 5)
        self.refuses(BadMould("cell", 1), Mould, 1, 1, [(0, 0), (0, 0)], [])
        self.refuses(BadMould("letter", 0), Mould, 1, 1, [(0, 0)], [1])

    def test_letters_many_and_free(self):
        for mould in all_moulds(2, 2):
            self.same(mould.letters_many, len(set(mould.letters)))
            self.same(mould.free, len(set(mould.letters)) == len(mould.cells))

    def test_length_iteration_and_in(self):
        for mould in all_moulds(1, 3):
            self.same((len(mould), list(mould), list(mould)), (len(mould.cells), list(mould.cells), list(mould.cells)))
            for cell in itertools.product(range(-1, 3), range(-1, 4)):
                self.assertIs(cell in mould, cell in mould.cells)
                self.assertIs(list(cell) in mould, cell in mould.cells)

    def test_nothing_but_a_couple_is_in_a_mould(self):
        mould = Mould(2, 3, list(itertools.product(range(2), range(3))))
        for thing in NO_CELLS:
            self.assertIs(thing in mould, False, repr(thing))

    def test_equality(self):
        moulds = [*all_moulds(1, 2), *all_moulds(2, 1), *all_moulds(2, 2), Mould(1, 3, []), Mould(3, 1, [])]
        for one, other in itertools.product(moulds, repeat=2):
            alike = repr(vars(one)) == repr(vars(other))
            self.assertIs(one == other, alike)
            self.assertIs(one != other, not alike)
        for mould in moulds:
            self.assertIs(mould == Mould(mould.height, mould.width, list(mould.cells), list(mould.letters)), True)

    def test_a_mould_is_unlike_other_things(self):
        class Like:
            height, width, cells, letters = 2, 3, SHARED.cells, SHARED.letters

        for thing in (None, 0, "", SHARED.cells, (2, 3, SHARED.cells, SHARED.letters), Like()):
            self.assertIs(SHARED == thing, False)
            self.assertIs(SHARED != thing, True)

    def test_later_changes_of_lists_have_no_effect(self):
        cells, letters = [[0, 0], [0, 2], [1, 1], [1, 2]], [0, 1, 0, 2]
        mould = Mould(2, 3, cells, letters)
        cells[0][0] = 1
        cells.append([1, 2])
        letters[2] = 5
        self.same(mould, SHARED)


class MouldReadingTest(Case):
    """Point 1.3: what a mould tells about itself, check_letter and check_numbers."""

    def test_letter_at(self):
        for mould in all_moulds(2, 2):
            letters = dict(zip(mould.cells, mould.letters))
            for row, column in itertools.product(range(-3, 4), repeat=2):
                self.gives(letters.get((row, column)), mould.letter_at, row, column)
        self.gives(1, SHARED.letter_at, column=2, row=0)

    def test_cells_of(self):
        for mould in all_moulds(2, 2):
            for letter in range(mould.letters_many):
                cells = tuple(cell for cell, borne in zip(mould.cells, mould.letters) if borne == letter)
                self.gives(cells, mould.cells_of, letter)
        self.gives(((0, 0), (1, 1)), SHARED.cells_of, letter=0)

    def test_no_letters_of_the_mould(self):
        for thing in [*not_wholes(), -1, 3, 4, [], [0], 10 ** 20]:
            self.refuses(BadLetter(thing), SHARED.cells_of, thing)
            self.refuses(BadLetter(thing), check_letter, SHARED, thing)
        self.refuses(BadLetter(0), check_letter, Mould(1, 1, []), 0)
        self.refuses(BadLetter(0), Mould(1, 1, []).cells_of, 0)

    def test_an_error_does_not_change_with_the_list_passed_in(self):
        letter = [0, 1]
        with self.assertRaises(BadLetter) as caught:
            check_letter(SHARED, letter)
        letter.append(2)
        self.assertEqual(tuple(caught.exception.letter), (0, 1))

    def test_check_letter_returns_the_letter(self):
        for letter in range(3):
            self.gives(letter, check_letter, SHARED, letter)
        self.gives(2, check_letter, letter=2, mould=SHARED)

    def test_filled(self):
        self.gives(
            (((5, 1), (0, 1), (-1, 2)), ((0, 1), (5, 1), (0, 1))), SHARED.filled, [5, (-1, 2), 0]
        )
        self.gives((((0, 1), (0, 1)),), Mould(1, 2, []).filled, ())
        for mould in all_moulds(2, 2):
            numbers = [(7, 3), 2, (-1, 5), 0][:mould.letters_many]
            table = mould.filled(numbers)
            self.assertEqual((len(table), [len(row) for row in table]), (2, [2, 2]))
            for row, column in itertools.product(range(2), repeat=2):
                letter = mould.letter_at(row, column)
                expected = 0 if letter is None else as_fraction(numbers[letter])
                self.assertEqual(as_fraction(table[row][column]), expected)

    def test_check_numbers_returns_ratios(self):
        self.gives(((5, 1), (-1, 2), (0, 1)), check_numbers, SHARED, [5, (-1, 2), 0])
        self.gives(((5, 1), (-1, 2), (0, 1)), check_numbers, numbers=(5, (-1, 2), (0, 1)), mould=SHARED)
        self.gives((), check_numbers, Mould(1, 1, []), [])
        great = 10 ** 40
        self.gives(((great, 1),), check_numbers, Mould(1, 1, [(0, 0)]), (great,))

    def test_numbers_that_are_no_sequence(self):
        for thing in not_sequences():
            self.refuses(BadNumbers(0), check_numbers, SHARED, thing)
            self.refuses(BadNumbers(0), SHARED.filled, thing)

    def test_the_first_that_is_no_number(self):
        for thing in NO_NUMBERS:
            for at, length in itertools.product(range(5), range(1, 6)):
                if at < length:
                    numbers = [1] * length
                    numbers[at] = thing
                    self.refuses(BadNumbers(at), check_numbers, SHARED, numbers)
                    self.refuses(BadNumbers(at), SHARED.filled, tuple(numbers))
        self.refuses(BadNumbers(1), check_numbers, SHARED, [1, None, True])

    def test_another_count(self):
        for mould in (SHARED, Mould(1, 1, []), Mould(1, 1, [(0, 0)])):
            for length in range(6):
                if length != mould.letters_many:
                    self.refuses(BadNumbers(min(length, mould.letters_many)), check_numbers, mould, [1] * length)
                    self.refuses(BadNumbers(min(length, mould.letters_many)), mould.filled, [1] * length)

    def test_the_greatest_mould(self):
        cells = tuple(itertools.product(range(6), repeat=2))
        mould = Mould(6, 6, cells)
        self.same((len(mould), mould.letters_many, mould.free), (36, 36, True))
        self.gives(((5, 5),), mould.cells_of, 35)
        one = Mould(6, 6, cells, [0] * 36)
        self.same((len(one), one.letters_many, one.free), (36, 1, False))
        self.gives(cells, one.cells_of, 0)

    def test_lots_and_numberings_of_the_tests_are_all(self):
        self.assertEqual((len(lots(range(4))), len(numberings(4)), len(all_moulds(1, 2))), (16, 15, 5))
