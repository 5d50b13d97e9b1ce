"""Moulds: which cells of a table may be other than 0, and which of these places bear one letter."""

from thinslopes.errors import BadCell, BadLetter, BadMould, BadNumbers, BadOrder
from thinslopes.ratios import ZERO, as_ratio, is_sequence, is_whole, misnumbered_at, unshared

MOST_LINES = 6


def is_couple(thing, height, width):
    if not is_sequence(thing) or len(thing) != 2:
        return False
    return is_whole(thing[0], 0, height - 1) and is_whole(thing[1], 0, width - 1)


def is_order(thing, many):
    if not is_sequence(thing) or not all([is_whole(number) for number in thing]):
        return False
    return sorted(thing) == list(range(many))


def check_letter(mould, letter):
    if not is_whole(letter, 0, mould.letters_many - 1):
        raise BadLetter(unshared(letter))
    return letter


def check_numbers(mould, numbers):
    if not is_sequence(numbers):
        raise BadNumbers(0)
    ratios = [as_ratio(number) for number in numbers]
    if None in ratios:
        raise BadNumbers(ratios.index(None))
    if len(ratios) != mould.letters_many:
        raise BadNumbers(min(len(ratios), mould.letters_many))
    return tuple(ratios)


def checked_cells(height, width, cells):
    if not is_sequence(cells):
        raise BadMould("cell", 0)
    places = []
    for index, cell in enumerate(cells):
        if not is_couple(cell, height, width) or (places and tuple(cell) <= places[-1]):
            raise BadMould("cell", index)
        places.append(tuple(cell))
    return tuple(places)


def checked_letters(many, letters):
    if not is_sequence(letters) or len(letters) != many:
        raise BadMould("letter", 0)
    index = misnumbered_at(letters)
    if index is not None:
        raise BadMould("letter", index)
    return tuple(letters)


def mould_by_places(height, width, letters):
    """Return the mould of a dict from places to letters, which need not be numbered by first appearance."""
    cells = sorted(letters)
    numbers = {}
    for cell in cells:
        numbers.setdefault(letters[cell], len(numbers))
    return Mould(height, width, cells, [numbers[letters[cell]] for cell in cells])


class Mould:
    def __init__(self, height, width, cells, letters=None):
        if not is_whole(height, 1, MOST_LINES):
            raise BadMould("height", 0)
        if not is_whole(width, 1, MOST_LINES):
            raise BadMould("width", 0)
        self.height = height
        self.width = width
        self.cells = checked_cells(height, width, cells)
        many = len(self.cells)
        self.letters = tuple(range(many)) if letters is None else checked_letters(many, letters)

    @property
    def letters_many(self):
        return max(self.letters, default=-1) + 1

    @property
    def free(self):
        return self.letters_many == len(self.cells)

    def __len__(self):
        return len(self.cells)

    def __iter__(self):
        return iter(self.cells)

    def __contains__(self, cell):
        return is_couple(cell, self.height, self.width) and tuple(cell) in self.cells

    def __eq__(self, other):
        return (isinstance(other, Mould) and self.height == other.height and self.width == other.width
                and self.cells == other.cells and self.letters == other.letters)

    def letter_at(self, row, column):
        cell = (row, column)
        return self.letters[self.cells.index(cell)] if cell in self else None

    def cells_of(self, letter):
        check_letter(self, letter)
        return tuple([cell for cell, borne in zip(self.cells, self.letters) if borne == letter])

    def filled(self, numbers):
        ratios = check_numbers(self, numbers)
        table = [[ZERO] * self.width for row in range(self.height)]
        for (row, column), letter in zip(self.cells, self.letters):
            table[row][column] = ratios[letter]
        return tuple([tuple(row) for row in table])

    def letters_by_place(self):
        return {cell: letter for cell, letter in zip(self.cells, self.letters)}

    def with_cell(self, cell):
        if not is_couple(cell, self.height, self.width) or cell in self:
            raise BadCell(unshared(cell))
        letters = self.letters_by_place()
        letters[tuple(cell)] = self.letters_many
        return mould_by_places(self.height, self.width, letters)

    def with_same(self, cell, other):
        for place in (cell, other):
            if place not in self:
                raise BadCell(unshared(place))
        letters = self.letters_by_place()
        first, second = letters[tuple(cell)], letters[tuple(other)]
        joined = {place: first if letter == second else letter for place, letter in letters.items()}
        return mould_by_places(self.height, self.width, joined)

    def without_cell(self, cell):
        if cell not in self:
            raise BadCell(unshared(cell))
        letters = self.letters_by_place()
        del letters[tuple(cell)]
        return mould_by_places(self.height, self.width, letters)

    def turned(self):
        letters = {(column, row): letter for (row, column), letter in zip(self.cells, self.letters)}
        return mould_by_places(self.width, self.height, letters)

    def renamed(self, rows, columns):
        if not is_order(rows, self.height):
            raise BadOrder("rows")
        if not is_order(columns, self.width):
            raise BadOrder("columns")
        letters = {(rows[row], columns[column]): letter for (row, column), letter in zip(self.cells, self.letters)}
        return mould_by_places(self.height, self.width, letters)

    def beside(self, other):
        letters = self.letters_by_place()
        for (row, column), letter in zip(other.cells, other.letters):
            letters[(self.height + row, self.width + column)] = self.letters_many + letter
        # A sum above 6 is told by the new mould's own checks, the height first.
        return mould_by_places(self.height + other.height, self.width + other.width, letters)
