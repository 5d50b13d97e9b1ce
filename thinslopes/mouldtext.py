"""Moulds written as a line of text, and read from one."""

from thinslopes.errors import BadText
from thinslopes.moulds import MOST_LINES, Mould


def mould_text(mould):
    words = [f"{mould.height}x{mould.width}:"]
    words.extend([f"{row}{column}" for row, column in mould.cells])
    if not mould.free:
        words.append("/")
        words.extend([str(letter) for letter in mould.letters])
    return " ".join(words)


def read_size(word):
    lines = range(1, MOST_LINES + 1)
    sizes = {f"{height}x{width}:": (height, width) for height in lines for width in lines}
    if word not in sizes:
        raise BadText(0)
    return sizes[word]


def read_cells(words, end, height, width):
    """Return the cells of the words from 1 to before `end`."""
    known = {f"{row}{column}": (row, column) for row in range(height) for column in range(width)}
    cells = []
    for index in range(1, end):
        cell = known.get(words[index])
        if cell is None or (cells and cell <= cells[-1]):
            raise BadText(index)
        cells.append(cell)
    return cells


def read_letters(words, start, many):
    """Return the letters of the words from `start` on, which are to be `many`."""
    letters = []
    for index in range(start, len(words)):
        # Comparing with the written letters bars every other way to write a number.
        known = [str(letter) for letter in range(max(letters, default=-1) + 2)]
        if len(letters) == many or words[index] not in known:
            raise BadText(index)
        letters.append(known.index(words[index]))
    if len(letters) < many:
        raise BadText(len(words))
    return letters


def read_mould(text):
    if not isinstance(text, str):
        raise BadText(0)
    words = text.split(" ")
    height, width = read_size(words[0])
    end = words.index("/") if "/" in words else len(words)
    cells = read_cells(words, end, height, width)
    letters = None if end == len(words) else read_letters(words, end + 1, len(cells))
    return Mould(height, width, cells, letters)
