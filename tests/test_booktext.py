import itertools
import random

from tests.helper import Case, not_sequences, not_wholes, random_book, random_mould, wrong_books
from thinslopes.booktext import book_text, read_book
from thinslopes.errors import BadText
from thinslopes.moulds import Mould

GREATEST = 10 ** 9
MOULD = Mould(2, 3, [(0, 0), (1, 2)])


class BookTextTest(Case):
    """Point 1.7, as far as it speaks of book_text and read_book."""

    def test_texts(self):
        book = [["column", [1, -2, 30]], ("row", (0, GREATEST)), ("row", [-GREATEST, 7])]
        self.gives("c 1 -2 30; r 0 1000000000; r -1000000000 7", book_text, MOULD, book)
        self.gives("c 0 0 0", book_text, mould=MOULD, book=(("column", (0, 0, 0)),))
        self.gives("r -5", book_text, Mould(1, 6, []), [("row", [-5])])

    def test_the_empty_book_has_the_empty_text(self):
        self.gives("", book_text, MOULD, [])
        self.gives("", book_text, MOULD, ())
        self.gives((), read_book, MOULD, "")

    def test_texts_are_read_back(self):
        chance = random.Random(171)
        for greatest in (2, 30, GREATEST):
            for _ in range(60):
                mould = random_mould(chance, chance.randint(1, 6), chance.randint(1, 6))
                book = random_book(chance, mould, 8, greatest)
                self.gives(book, read_book, mould, book_text(mould, book))

    def test_reading(self):
        expected = (("column", (1, -2, 30)), ("row", (0, GREATEST)), ("row", (-GREATEST, 7)))
        self.gives(expected, read_book, MOULD, "c 1 -2 30; r 0 1000000000; r -1000000000 7")
        self.gives((("row", (0, 0)),), read_book, text="r 0 0", mould=MOULD)
        self.gives((("row", (0,)),) * 8, read_book, Mould(1, 1, []), "; ".join(["r 0"] * 8))

    def test_wrong_books(self):
        for book, error in wrong_books(MOULD):
            self.refuses(error, book_text, MOULD, book)

    def test_things_that_are_no_text(self):
        for thing in [*not_sequences(), *not_wholes(), [], ["c"], ("r", 0), b""]:
            if not isinstance(thing, str):
                self.refuses(BadText(0), read_book, MOULD, thing)

    def refused(self, index, text):
        self.refuses(BadText(index), read_book, MOULD, text)

    def test_kinds_that_cannot_stand(self):
        for word in (" ", "x", "C", "column", "row", "cc", "c;", "r;", ";", "0", "-1", "c1", "\n", "\tc", "c\n", "/"):
            self.refused(0, word)
            self.refused(0, word + " 1 2 3")
            self.refused(3, "r 0 0; " + word)
        self.refused(3, "r 0 0; ")
        self.refused(3, "r 0 0;  r 0 0")

    def test_numbers_that_cannot_stand(self):
        wrong = [
            "", "00", "01", "-0", "-01", "+1", "--1", "-", "1.0", "1,", ",", "x", "c", "r", "1\n", "\t1", "1_0", "0x1",
            "\u0661", "\u00b2", str(GREATEST + 1), str(-GREATEST - 1), "9" * 5000, "-" + "9" * 5000, "0" * 5000, "1-",
            ";", "1;;", ";1", "1 ;", "- 1",
        ]
        for word in wrong:
            if " " not in word:
                self.refused(1, "c " + word + " 2 3")
                self.refused(2, "c 1 " + word)
                self.refused(3, "c 1 2 " + word)
                self.refused(6, "c 1 2 3; r 0 " + word + " x")
                self.refused(6, "c 1 2 3; r 0 " + word + "; c")
        self.refused(4, "c 1 2 3 ;")
        self.refused(3, "c 1 2 ;")

    def test_a_semicolon_ends_the_last_word_of_an_ask_alone(self):
        self.refused(1, "c 1; 2 3")
        self.refused(2, "c 1 2; 3")
        self.refused(0, "c; 1 2 3")

    def test_words_that_are_lacking(self):
        for text in ("c", "c 1", "c 1 2", "r 0", "c 1 2 3;", "c 1 2 3; r", "c 1 2 3; r 0", "r 0 0; r 0 0;"):
            self.refused(len(text.split(" ")), text)

    def test_words_behind_the_end(self):
        for behind in ("r", "c 1 2 3", "4", "", ";", "x"):
            self.refused(4, "c 1 2 3 " + behind)
            self.refused(7, "c 1 2 3; r 0 0 " + behind)

    def test_behind_eight_asks(self):
        eight = "; ".join(["r 0 0"] * 8)
        self.gives((("row", (0, 0)),) * 8, read_book, MOULD, eight)
        for behind in (";", "; r 0 0", "; x", "; ", " x", " r 0 0"):
            self.refused(24, eight + behind)

    def test_every_row_of_some_words(self):
        """Against the definition: the first word behind which no right text goes on."""
        mould = Mould(1, 2, [])
        words = ["c", "r", "0", "0;", "", ";"]
        right = set()
        asks = [("c", "0", "0"), ("r", "0")]
        for many in (1, 2, 3):
            for parts in itertools.product(asks, repeat=many):
                right.add(tuple("; ".join(" ".join(part) for part in parts).split(" ")))
        starts = {text[:many] for text in right for many in range(len(text) + 1)}
        for length in range(1, 5):
            for text in itertools.product(words, repeat=length):
                if text == ("",):
                    continue
                wrong = [at for at in range(length) if text[:at + 1] not in starts]
                if wrong:
                    self.refuses(BadText(wrong[0]), read_book, mould, " ".join(text))
                elif text not in right:
                    self.refuses(BadText(length), read_book, mould, " ".join(text))
                else:
                    self.assertEqual(book_text(mould, read_book(mould, " ".join(text))), " ".join(text))
