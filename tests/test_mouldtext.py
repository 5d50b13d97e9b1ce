import itertools

from tests.helper import Case, all_moulds, lots, not_sequences, not_wholes, numberings
from thinslopes.errors import BadText
from thinslopes.moulds import Mould
from thinslopes.mouldtext import mould_text, read_mould
from thinslopes.webs import Web

SHARED = Mould(2, 3, [(0, 0), (0, 2), (1, 1), (1, 2)], [0, 1, 0, 2])


def letters_written(mould):
    return " ".join([mould_text(mould), "/", *[str(letter) for letter in mould.letters]])


class MouldTextTest(Case):
    """Point 1.7, as far as it speaks of mould_text and read_mould."""

    def test_texts(self):
        self.gives("2x3: 00 02 11 12 / 0 1 0 2", mould_text, SHARED)
        self.gives("2x3: 00 02 11 12", mould_text, mould=Mould(2, 3, SHARED.cells))
        self.gives("1x6:", mould_text, Mould(1, 6, []))
        self.gives("6x1: 50", mould_text, Mould(6, 1, [(5, 0)]))
        self.gives("2x2: 01 10 / 0 0", mould_text, Web(2, [(0, 1)]).as_mould())

    def test_texts_are_read_back(self):
        for mould in [*all_moulds(2, 2), *all_moulds(1, 4), *all_moulds(3, 1), SHARED]:
            self.gives(mould, read_mould, mould_text(mould))
        cells = list(itertools.product(range(6), repeat=2))
        greatest = Mould(6, 6, cells, [*range(34), 0, 33])
        for mould in (Mould(6, 6, cells), Mould(6, 6, cells, [0] * 36), greatest):
            self.gives(mould, read_mould, text=mould_text(mould))
        self.assertEqual(mould_text(greatest).split(" ")[-3:], ["33", "0", "33"])

    def test_heights_and_widths_from_1_to_6(self):
        for height, width in itertools.product(range(1, 7), repeat=2):
            text = f"{height}x{width}: {height - 1}{width - 1}"
            self.gives(Mould(height, width, [(height - 1, width - 1)]), read_mould, text)
            self.gives(text, mould_text, Mould(height, width, [(height - 1, width - 1)]))

    def test_letters_of_a_free_mould_may_be_written(self):
        for lot in lots(list(itertools.product(range(2), repeat=2))):
            self.gives(Mould(2, 2, lot), read_mould, letters_written(Mould(2, 2, lot)))
        self.gives(Mould(1, 2, [(0, 0), (0, 1)]), read_mould, "1x2: 00 01 / 0 1")

    def test_the_slash_alone_where_there_is_no_place(self):
        self.gives(Mould(4, 5, []), read_mould, "4x5: /")
        self.refuses(BadText(2), read_mould, "4x5: / 0")
        self.refuses(BadText(2), read_mould, "4x5: / ")
        self.refuses(BadText(2), read_mould, "4x5: / /")

    def test_things_that_are_no_text(self):
        for thing in [*not_sequences(), *not_wholes(), ["2x3:"], ("2x3:",), b"2x3:"]:
            if not isinstance(thing, str):
                self.refuses(BadText(0), read_mould, thing)

    def test_first_words_that_cannot_stand(self):
        wrong = [
            "", " ", "2x3", "2x3:00", "0x3:", "2x0:", "7x3:", "2x7:", "2X3:", "x3:", "2x:", "02x3:", "2x03:", "2:3x",
            "2 x3:", "2x3 :", " 2x3:", "-2x3:", "2x3:/", "/", "00", "2x3:\n", "\u0662x3:", "12x3:", "2x3:\t00",
        ]
        for text in wrong:
            self.refuses(BadText(0), read_mould, text)
            self.refuses(BadText(0), read_mould, text + " 00 x")

    def test_places_that_cannot_stand(self):
        wrong = [
            "", "0", "000", "20", "03", "0x", "x0", "-1", "+0", "0,0", "0\n", "\u06600", "0\u0660", "\u00b20", "//",
            "00/", "2x3:", "99",
        ]
        for word in wrong:
            for behind in ("", " 11", " 01", " / 0", " "):
                self.refuses(BadText(1), read_mould, "2x3: " + word + behind)
                self.refuses(BadText(3), read_mould, "2x3: 00 01 " + word + behind)

    def test_places_that_do_not_ascend(self):
        self.refuses(BadText(2), read_mould, "2x3: 01 01")
        self.refuses(BadText(3), read_mould, "2x3: 01 10 02 x")

    def test_letters_that_cannot_stand(self):
        wrong = ["", "2", "00", "01", "-0", "-1", "+1", "1.", "x", "/", "\u0661", "\u00b9", "1\n", "9" * 5000, "1_0"]
        for word in wrong:
            for behind in ("", " 0", " /", " "):
                self.refuses(BadText(5), read_mould, "2x3: 00 01 / 0 " + word + behind)
        self.refuses(BadText(4), read_mould, "2x3: 00 01 / 1 0")

    def test_words_that_are_lacking(self):
        self.refuses(BadText(3), read_mould, "2x3: 00 /")
        self.refuses(BadText(5), read_mould, "2x3: 00 01 / 0")
        self.refuses(BadText(6), read_mould, "2x3: 00 01 02 / 0")

    def test_words_behind_the_end(self):
        self.refuses(BadText(4), read_mould, "2x3: 00 / 0 0")
        self.refuses(BadText(6), read_mould, "2x3: 00 01 / 0 1 2")
        self.refuses(BadText(6), read_mould, "2x3: 00 01 / 0 1 ")
        self.refuses(BadText(6), read_mould, "2x3: 00 01 / 0 1 /")

    def test_every_row_of_some_words(self):
        """Against the definition: the first word behind which no right text goes on."""
        right = set()
        for lot in lots(["00", "01"]):
            right.add(("1x2:", *lot))
            for letters in numberings(len(lot)):
                right.add(("1x2:", *lot, "/", *[str(letter) for letter in letters]))
        starts = {text[:many] for text in right for many in range(len(text) + 1)}
        words = ["1x2:", "00", "01", "/", "0", "1", ""]
        for length in range(1, 6):
            for behind in itertools.product(words, repeat=length):
                text = ("1x2:", *behind)
                wrong = [at for at in range(len(text)) if text[:at + 1] not in starts]
                if wrong:
                    self.refuses(BadText(wrong[0]), read_mould, " ".join(text))
                elif text not in right:
                    self.refuses(BadText(len(text)), read_mould, " ".join(text))
                else:
                    self.assertEqual(letters_written(read_mould(" ".join(text))).split(" ")[:len(text)], list(text))
