"""Edits of a mould and a book, made in one go."""

from thinslopes.asks import MOST_ASKS, check_ask, check_book
from thinslopes.errors import BadAsk, BadEdit
from thinslopes.moulds import Mould, is_couple
from thinslopes.ratios import is_sequence, is_whole, is_worded

MOST_EDITS = 6
LENGTHS = {"add": 2, "drop": 2, "same": 3, "ask": 2, "unask": 2}


def are_cells_for(mould, edit):
    if edit[0] == "add":
        return is_couple(edit[1], mould.height, mould.width) and edit[1] not in mould
    if not all([cell in mould for cell in edit[1:]]):
        return False
    letters = mould.letters_by_place()
    return edit[0] == "drop" or letters[tuple(edit[1])] != letters[tuple(edit[2])]


def checked_edit(mould, book, index, edit):
    """Return the edit in tuples, whatever edits come ahead of it."""
    if not is_worded(edit, dict(LENGTHS)):
        raise BadEdit(index, "kind")
    word = edit[0]
    if word == "ask":
        try:
            return (word, check_ask(mould, edit[1]))
        except BadAsk:
            raise BadEdit(index, "ask")
    if word == "unask":
        if not is_whole(edit[1], 0, len(book) - 1):
            raise BadEdit(index, "index")
        return (word, edit[1])
    if not are_cells_for(mould, edit):
        raise BadEdit(index, "cell")
    return (word, *sorted([tuple(cell) for cell in edit[1:]]))


def things_of(edits, word):
    """Return what stands behind the word in the edits of this kind, in their order."""
    return [edit[1] for edit in edits if edit[0] == word]


def checked_edits(mould, book, pool):
    if not is_sequence(pool) or len(pool) > MOST_EDITS:
        raise BadEdit(0, "many")
    edits = []
    for index, thing in enumerate(pool):
        edit = checked_edit(mould, book, index, thing)
        if edit[0] == "ask" and len(book) + len(things_of(edits, "ask")) == MOST_ASKS:
            raise BadEdit(index, "full")
        if edit[0] != "ask" and edit in edits:
            raise BadEdit(index, "twice")
        edits.append(edit)
    return tuple(edits)


def check_pool(mould, book, pool):
    return checked_edits(mould, check_book(mould, book), pool)


def made_in_one_go(mould, book, edits):
    """Return a new mould and a new book, as checked edits make them."""
    changed = Mould(mould.height, mould.width, mould.cells, mould.letters)
    for edit in edits:
        if edit[0] == "same":
            changed = changed.with_same(edit[1], edit[2])
    for cell in things_of(edits, "drop"):
        changed = changed.without_cell(cell)
    for cell in things_of(edits, "add"):
        changed = changed.with_cell(cell)
    gone = things_of(edits, "unask")
    kept = [ask for index, ask in enumerate(book) if index not in gone]
    return (changed, (*kept, *things_of(edits, "ask")))


def edited(mould, book, edits):
    asks = check_book(mould, book)
    return made_in_one_go(mould, asks, checked_edits(mould, asks, edits))
