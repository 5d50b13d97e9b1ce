import itertools
import random

from tests.helper import Case, not_sequences, not_wholes, random_book, random_mould, wrong_books
from thinslopes.edits import check_pool, edited
from thinslopes.errors import BadEdit
from thinslopes.moulds import Mould

SMALL = Mould(2, 3, [(0, 0), (0, 1), (1, 0), (1, 2)], [0, 1, 2, 0])
COLUMN = ("column", (1, 0, 2))
ROW = ("row", (1, -1))
BOOK = (COLUMN, ROW, COLUMN)
POOL = (("add", (0, 2)), ("drop", (0, 1)), ("same", (0, 0), (1, 0)), ("ask", ROW), ("unask", 1), ("unask", 0))
# No cells of SMALL's table.
NO_CELLS = [None, 0, "00", (), (0,), (0, 0, 0), (2, 0), (0, 3), (-1, 0), (True, 0), (0, False), ("0", 0), ((0, 0), 0)]


def in_lists(thing):
    return [in_lists(item) for item in thing] if isinstance(thing, tuple) else thing


def wrong_pools():
    """Couples of a thing that is no pool of SMALL and BOOK and the error that tells why."""
    found = [(thing, BadEdit(0, "many")) for thing in [*not_sequences(), [("unask", 0)] * 7, (None,) * 7]]
    kinds = [*not_sequences(), (), [], ("ads", (0, 2)), ("Add", (0, 2)), (b"add", (0, 2)), (None, 0), (["add"], (0, 2)),
             ("add",), ("add", (0, 2), (1, 1)), ("drop",), ("drop", (0, 0), (0, 1)), ("same", (0, 0)),
             ("same", (0, 0), (0, 1), (1, 0)), ("ask",), ("ask", *ROW), ("unask",), ("unask", 0, 1)]
    found += [([POOL[0], thing], BadEdit(1, "kind")) for thing in kinds]
    for cell in [*NO_CELLS, (0, 0), [1, 2]]:
        found.append(([("add", cell)], BadEdit(0, "cell")))
    for cell in [*NO_CELLS, (0, 2), [1, 1]]:
        found += [((["drop", cell],), BadEdit(0, "cell")), ([POOL[1], ("same", cell, (0, 0))], BadEdit(1, "cell")),
                  ([("same", (0, 0), cell)], BadEdit(0, "cell"))]
    # Both bear one letter.
    found += [([("same", (1, 2), (0, 0))], BadEdit(0, "cell")), ([("same", [0, 1], (0, 1))], BadEdit(0, "cell"))]
    for ask in [None, (), ("columns", (1, 1, 1)), ("row", (1, 1, 1)), ("column", [1, True, 1]), ("row", (10 ** 10, 0))]:
        found.append(([*POOL[:3], ("ask", ask)], BadEdit(3, "ask")))
    for index in [*not_wholes(), -1, 3]:
        found.append(((("unask", 2), ["unask", index]), BadEdit(1, "index")))
    for edit in (POOL[0], POOL[1], POOL[4]):
        found.append(([edit, POOL[2], list(edit)], BadEdit(2, "twice")))
    found.append(([POOL[2], ["same", [1, 0], [0, 0]]], BadEdit(1, "twice")))
    found.append(([["drop", [0, 1]], ("drop", (0, 1))], BadEdit(1, "twice")))
    return found


def edited_plainly(mould, book, edits):
    """The mould and the book of point 10.3, by lots of places that share a letter."""
    lots = [{cell for cell in mould.cells if mould.letter_at(*cell) == letter} for letter in range(mould.letters_many)]
    for _, one, other in [edit for edit in edits if edit[0] == "same"]:
        joined = [lot for lot in lots if one in lot or other in lot]
        lots = [lot for lot in lots if lot not in joined] + [set().union(*joined)]
    dropped = {edit[1] for edit in edits if edit[0] == "drop"}
    lots = [lot - dropped for lot in lots] + [{edit[1]} for edit in edits if edit[0] == "add"]
    cells = sorted(cell for lot in lots for cell in lot)
    firsts = sorted((min(lot) for lot in lots if lot))
    letters = [firsts.index(min(lot)) for cell in cells for lot in lots if cell in lot]
    gone = [edit[1] for edit in edits if edit[0] == "unask"]
    asks = [ask for index, ask in enumerate(book) if index not in gone]
    asks += [edit[1] for edit in edits if edit[0] == "ask"]
    return (Mould(mould.height, mould.width, cells, letters), tuple(asks))


def random_pool(chance, mould, book, most=6, words=("add", "drop", "same", "ask", "unask")):
    pool = []
    cells = list(itertools.product(range(mould.height), range(mould.width)))
    for _ in range(20):
        word = chance.choice(words)
        one, other = sorted((chance.choice(cells), chance.choice(cells)))
        edit = None
        if word == "add" and one not in mould or word == "drop" and one in mould:
            edit = (word, one)
        if word == "same" and one in mould and other in mould and mould.letter_at(*one) != mould.letter_at(*other):
            edit = (word, one, other)
        if word == "ask" and len(book) + [kept[0] for kept in pool].count("ask") < 8:
            kind = chance.choice(("column", "row"))
            many = mould.width if kind == "column" else mould.height
            edit = (word, (kind, tuple(chance.randint(-1, 2) for _ in range(many))))
        if word == "unask" and book:
            edit = (word, chance.randrange(len(book)))
        if edit is not None and (word == "ask" or edit not in pool) and len(pool) < most:
            pool.append(edit)
    return tuple(pool)


def some_pools(seed, many, most=6, words=("add", "drop", "same", "ask", "unask")):
    """Triples of a mould, a book and a pool."""
    chance = random.Random(seed)
    found = []
    for _ in range(many):
        mould = random_mould(chance, chance.randint(1, 3), chance.randint(1, 3))
        book = random_book(chance, mould, 4, 2)
        found.append((mould, book, random_pool(chance, mould, book, chance.randint(0, most), words)))
    return found


class CheckPoolTest(Case):
    """Point 10.2."""

    def test_pools_come_back_in_tuples(self):
        self.gives(POOL, check_pool, SMALL, BOOK, list(POOL))
        self.gives(POOL, check_pool, SMALL, in_lists(BOOK), in_lists(POOL))
        self.gives((("same", (0, 0), (0, 1)), ("same", (0, 1), (1, 2))), check_pool, pool=[
            ("same", [0, 1], [0, 0]), ["same", (0, 1), (1, 2)]], book=BOOK, mould=SMALL)
        self.gives((), check_pool, SMALL, [], [])
        for mould, book, pool in some_pools(341, 60):
            self.gives(pool, check_pool, mould, book, in_lists(pool))
            turned = [("same", edit[2], edit[1]) if edit[0] == "same" else edit for edit in pool]
            self.gives(pool, check_pool, mould, book, turned)

    def test_pools_of_6_and_of_7_edits(self):
        asks = [("ask", ROW)] * 6
        self.gives(tuple(asks), check_pool, SMALL, (), asks)
        self.refuses(BadEdit(0, "many"), check_pool, SMALL, (), [*asks, ("ask", ROW)])

    def test_a_book_that_becomes_full(self):
        for many in range(4, 9):
            book = [COLUMN] * many
            fits = [("ask", ROW)] * (8 - many)
            self.gives(tuple(fits), check_pool, SMALL, book, fits)
            self.refuses(BadEdit(8 - many, "full"), check_pool, SMALL, book, [*fits, ["ask", ROW]])
            # What is taken out makes no room, and edits of other kinds take none.
            self.refuses(BadEdit(9 - many, "full"), check_pool, SMALL, book, [
                ("unask", 0), *fits, ["ask", list(ROW)]])
        self.gives((POOL[0], ("ask", ROW), ("ask", ROW)), check_pool, SMALL, [ROW] * 6, [
            POOL[0], ("ask", ROW), ("ask", ROW)])

    def test_asks_may_be_alike(self):
        self.gives((("ask", COLUMN), ("ask", COLUMN)), check_pool, SMALL, BOOK, (("ask", COLUMN), ["ask", COLUMN]))

    def test_each_word(self):
        self.refuses_in_order(check_pool, (SMALL, BOOK, POOL), [(1, wrong_books(SMALL)), (2, wrong_pools())])

    def test_two_words_at_once(self):
        full = [COLUMN] * 8
        self.refuses(BadEdit(0, "ask"), check_pool, SMALL, full, [("ask", None)])
        self.refuses(BadEdit(0, "full"), check_pool, SMALL, full, [("ask", ROW), None])
        self.refuses(BadEdit(1, "cell"), check_pool, SMALL, BOOK, [POOL[0], ("drop", (1, 1)), ("drop", (1, 1))])
        self.refuses(BadEdit(1, "kind"), check_pool, SMALL, BOOK, [POOL[0], ("drop",), POOL[0]])
        self.refuses(BadEdit(1, "twice"), check_pool, SMALL, BOOK, [POOL[0], POOL[0], None])
        self.refuses(BadEdit(0, "index"), check_pool, SMALL, (), [("unask", 0), ("unask", 0)])

    def test_a_cell_that_an_edit_of_the_pool_adds_is_no_place(self):
        self.refuses(BadEdit(1, "cell"), check_pool, SMALL, (), [("add", (0, 2)), ("drop", (0, 2))])
        self.refuses(BadEdit(1, "cell"), check_pool, SMALL, (), [("drop", (0, 1)), ("add", (0, 1))])
        self.refuses(BadEdit(1, "cell"), check_pool, SMALL, (), [("add", (0, 2)), ("same", (0, 0), (0, 2))])

    def test_later_changes_have_no_effect(self):
        pool = in_lists(POOL)
        checked = check_pool(SMALL, BOOK, pool)
        pool[0][1][0] = 1
        pool[3][1][1][0] = 9
        pool.clear()
        self.same(checked, POOL)


class EditedTest(Case):
    """Point 10.3."""

    def test_all_at_once(self):
        words = set()
        for mould, book, pool in some_pools(342, 120):
            right = edited_plainly(mould, book, pool)
            self.gives(right, edited, mould, list(book), in_lists(pool))
            words.update(edit[0] for edit in pool)
        self.assertEqual(len(words), 5)

    def test_the_order_means_nothing_but_for_new_asks(self):
        chance = random.Random(343)
        for mould, book, pool in some_pools(344, 40):
            shuffled = chance.sample(pool, len(pool))
            asks = [edit for edit in pool if edit[0] == "ask"]
            mixed = [asks.pop(0) if edit[0] == "ask" else edit for edit in shuffled]
            self.same(edited(mould, book, mixed), edited(mould, book, pool))
        book = [ROW]
        self.same(edited(SMALL, book, [("ask", COLUMN), ("ask", ROW), ("unask", 0)])[1], (COLUMN, ROW))
        self.same(edited(SMALL, book, [("ask", ROW), ("ask", COLUMN)])[1], (ROW, ROW, COLUMN))

    def test_a_chain_of_sames_joins_all_its_letters(self):
        free = Mould(2, 2, [(0, 0), (0, 1), (1, 0), (1, 1)])
        chain = [("same", (0, 0), (0, 1)), ("same", (1, 0), (1, 1)), ("same", (0, 1), (1, 1))]
        for order in itertools.permutations(chain):
            self.same(edited(free, (), order)[0].letters, (0, 0, 0, 0))
        # The place in the middle goes, yet the others stay joined.
        found = edited(free, (), [chain[0], chain[2], ("drop", (0, 1))])[0]
        self.same((found.cells, found.letters), (((0, 0), (1, 0), (1, 1)), (0, 1, 0)))
        # Sames that join letters which others have joined already.
        ring = [*chain, ("same", (0, 0), (1, 0))]
        self.same(edited(free, (), ring)[0].letters, (0, 0, 0, 0))

    def test_letters_are_named_anew(self):
        found, book = edited(SMALL, BOOK, POOL)
        self.same((found.cells, found.letters), (((0, 0), (0, 2), (1, 0), (1, 2)), (0, 1, 0, 0)))
        self.same(book, (COLUMN, ROW))
        self.gives((SMALL, BOOK), edited, edits=(), book=in_lists(BOOK), mould=SMALL)
        self.gives((Mould(1, 1, []), ()), edited, Mould(1, 1, [(0, 0)]), [("row", [1])], [
            ["unask", 0], ["drop", [0, 0]]])

    def test_the_mould_is_new(self):
        self.assertIsNot(edited(SMALL, (), ())[0], SMALL)

    def test_errors(self):
        self.refuses_in_order(edited, (SMALL, BOOK, POOL), [(1, wrong_books(SMALL)), (2, wrong_pools())])
