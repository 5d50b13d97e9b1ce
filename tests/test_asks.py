import itertools
from fractions import Fraction

from tests.helper import Case, all_moulds, all_webs, as_fraction, as_ratios, not_sequences, not_wholes
from thinslopes.asks import answers_many, book_answers, check_ask, check_book, power_asks, span_rows
from thinslopes.errors import BadAsk, BadNumbers
from thinslopes.groupings import all_groupings, book_of
from thinslopes.moulds import Mould

GREATEST = 10 ** 9
MOULD = Mould(2, 3, [(0, 0), (0, 2), (1, 1), (1, 2)], [0, 1, 0, 2])
BOOK = (("column", (1, 2, 3)), ("row", (4, -5)), ("column", (0, 0, 0)))
CALLS = (check_book, answers_many, span_rows, lambda mould, book: book_answers(mould, book, [1, 2, 3]))


def answers_of(mould, book, numbers):
    """The products of the filled table with the rows and columns, by the definition of point 0.1."""
    table = [[as_fraction(number) for number in row] for row in mould.filled(numbers)]
    found = []
    for kind, asked in book:
        lines = table if kind == "column" else list(zip(*table))
        found.extend(sum((a * b for a, b in zip(line, asked)), Fraction(0)) for line in lines)
    return as_ratios(found)


class AskTest(Case):
    """Point 1.6: check_ask and check_book."""

    def test_asks_are_returned_in_tuples(self):
        for numbers in ([1, 2, 3], (0, 0, 0), [GREATEST, -GREATEST, 0]):
            for ask in (("column", numbers), ["column", numbers]):
                self.gives(("column", tuple(numbers)), check_ask, MOULD, ask)
        for numbers in ([1, 2], (0, 0), (GREATEST, -GREATEST)):
            self.gives(("row", tuple(numbers)), check_ask, MOULD, ["row", numbers], 3)
            self.gives(("row", tuple(numbers)), check_ask, index=0, ask=("row", numbers), mould=MOULD)

    def refused(self, what, ask):
        self.refuses(BadAsk(0, what), check_ask, MOULD, ask)
        self.refuses(BadAsk(5, what), check_ask, MOULD, ask, 5)
        self.refuses(BadAsk(0, what), check_book, MOULD, [ask])
        self.refuses(BadAsk(2, what), check_book, MOULD, (BOOK[0], BOOK[1], ask, BOOK[2]))

    def test_no_couple_or_another_word(self):
        for thing in [*not_sequences(), [], ["column"], ("row", (1, 2), 3), "cr", {"column": 0, "row": 1}]:
            self.refused("kind", thing)
        for word in ("", "Column", "columns", "rows", "c", "r", b"row", None, 0, True, ["row"], ("column",)):
            self.refused("kind", (word, (1, 2, 3)))
            self.refused("kind", [word, (1, 2)])
            self.refused("kind", [word, None])

    def test_no_sequence_of_so_many(self):
        for thing in [*not_sequences(), "000", {0: 1, 1: 2, 2: 3}, [], (1,), (1, 2, 3, 4)]:
            self.refused("length", ("column", thing))
            self.refused("length", ["row", thing])
        self.refused("length", ("column", (1, 2)))
        self.refused("length", ("row", [1, 2, 3]))
        self.refused("length", ("column", (None, None)))

    def test_no_whole_number_in_the_limits(self):
        for thing in [*not_wholes(), [0], GREATEST + 1, -GREATEST - 1, (1, 2)]:
            for at in range(3):
                numbers = [GREATEST, 0, -GREATEST]
                numbers[at] = thing
                self.refused("number", ("column", numbers))
                self.refused("number", ["column", tuple(numbers)])
            self.refused("number", ("row", (0, thing)))
            self.refused("number", ("row", [thing, 0]))

    def test_books_are_returned_in_tuples(self):
        self.gives(BOOK, check_book, MOULD, [["column", [1, 2, 3]], ("row", [4, -5]), ["column", (0, 0, 0)]])
        self.gives(BOOK, check_book, book=BOOK, mould=MOULD)
        self.gives((), check_book, MOULD, [])
        self.gives((), check_book, MOULD, ())
        self.gives((BOOK[1],) * 8, check_book, MOULD, [BOOK[1]] * 8)

    def test_no_sequence_or_more_than_8_asks(self):
        for call in CALLS:
            for thing in [*not_sequences(), [BOOK[0]] * 9, (BOOK[1],) * 9, [None] * 9]:
                self.refuses(BadAsk(0, "many"), call, MOULD, thing)

    def test_the_first_wrong_ask_is_told(self):
        wrong = {"kind": ("x", None), "length": ("row", (True,)), "number": ("row", (0, True))}
        for call in CALLS:
            for one, other in itertools.product(wrong, repeat=2):
                self.refuses(BadAsk(1, one), call, MOULD, [BOOK[0], wrong[one], wrong[other]])
            self.refuses(BadAsk(7, "length"), call, MOULD, [BOOK[1]] * 7 + [["column", [1, 2]]])

    def test_later_changes_have_no_effect(self):
        book = [["column", [1, 2, 3]], ["row", [4, -5]]]
        checked, ask = check_book(MOULD, book), check_ask(MOULD, book[0])
        book[0][1][0] = 9
        book[1][0] = "x"
        book.append(None)
        self.same((checked, ask), (BOOK[:2], BOOK[0]))


class AnswersTest(Case):
    """Points 0.1 and 1.6: answers and span rows."""

    def test_the_example_of_point_1_7(self):
        mould = Mould(2, 2, [(0, 0), (0, 1), (1, 1)], [0, 1, 0])
        answers = book_answers(mould, [("column", (1, 2)), ("row", (1, 1))], [3, (1, 2)])
        self.same(answers, ((4, 1), (6, 1), (3, 1), (7, 2)))

    def test_answers_many(self):
        for height, width in itertools.product(range(1, 7), repeat=2):
            mould = Mould(height, width, [])
            column, row = ("column", [0] * width), ["row", (1,) * height]
            self.gives(0, answers_many, mould, [])
            self.gives(height, answers_many, mould, [column])
            self.gives(width, answers_many, mould, (row,))
            self.gives(3 * height + 5 * width, answers_many, mould, [row, column] * 3 + [row, row])

    def test_span_rows(self):
        expected = (
            (1, 3, 0), (2, 0, 3),
            (4, 0, 0), (-5, 0, 0), (0, 4, -5),
            (0, 0, 0), (0, 0, 0),
        )
        self.gives(expected, span_rows, MOULD, BOOK)
        self.gives(expected, span_rows, book=[list(ask) for ask in BOOK], mould=MOULD)

    def test_the_numbers_of_a_letter_on_several_places_are_added(self):
        mould = Mould(2, 2, [(0, 0), (0, 1), (1, 0)], [0, 0, 0])
        self.gives(((3,), (1,)), span_rows, mould, [("column", (1, 2))])
        self.gives(((0,), (0,)), span_rows, mould, [("column", (0, 0))])
        self.gives(((0,), (1,)), span_rows, mould, [("row", (1, -1))])
        self.gives(((0, 1), (2, 1), (6, 1), (2, 1)), book_answers, mould, [("row", (1, -1)), ("column", (1, 2))], [2])

    def test_no_asks_no_places_and_the_greatest(self):
        self.gives((), span_rows, MOULD, [])
        self.gives((), book_answers, MOULD, (), [1, 2, 3])
        empty = Mould(2, 1, [])
        self.gives(((), (), ()), span_rows, empty, [("column", [5]), ("row", [1, 1])])
        self.gives(((0, 1), (0, 1), (0, 1)), book_answers, empty, [("column", [5]), ("row", [1, 1])], [])
        full = Mould(6, 6, list(itertools.product(range(6), repeat=2)), [0] * 36)
        book = [("column", [GREATEST] * 6), ("row", [-GREATEST] * 6)] * 4
        self.gives((((6 * GREATEST,),) * 6 + ((-6 * GREATEST,),) * 6) * 4, span_rows, full, book)
        self.gives(48, answers_many, full, book)

    def test_answers_are_the_products_of_the_table(self):
        columns = [(1, 2), (0, 0), (-3, 1), (GREATEST, -GREATEST)]
        book = [(kind, numbers) for numbers in columns for kind in ("column", "row")]
        some = [(1, 3), -2, (5, 7), 10 ** 12]
        for mould in all_moulds(2, 2):
            numbers = some[:mould.letters_many]
            self.gives(answers_of(mould, book, numbers), book_answers, mould, book, numbers)
            rows = span_rows(mould, book)
            self.assertEqual([len(row) for row in rows], [mould.letters_many] * answers_many(mould, book))
            for letter in range(mould.letters_many):
                unit = [1 if other == letter else 0 for other in range(mould.letters_many)]
                column = tuple((row[letter], 1) for row in rows)
                self.gives(column, book_answers, mould, book, unit)
        self.gives(answers_of(MOULD, BOOK, some[:3]), book_answers, MOULD, BOOK, tuple(some[:3]))

    def test_answers_of_a_web_stand_point_by_point_for_each_group(self):
        for web in all_webs(3):
            for grouping in all_groupings(3):
                rows = span_rows(web.as_mould(), book_of(grouping))
                for number, (group, point) in enumerate(itertools.product(range(max(grouping) + 1), range(3))):
                    expected = tuple(
                        1 if (one == point and grouping[other] == group) or (other == point and grouping[one] == group)
                        else 0 for one, other in web.ties
                    )
                    self.same(rows[number], expected)

    def test_the_book_is_told_ahead_of_the_numbers(self):
        self.refuses(BadAsk(0, "kind"), book_answers, MOULD, [None], None)
        self.refuses(BadAsk(0, "many"), book_answers, MOULD, None, None)
        self.refuses(BadNumbers(0), book_answers, MOULD, BOOK, None)
        self.refuses(BadNumbers(1), book_answers, MOULD, BOOK, [1, True, 3])
        self.refuses(BadNumbers(2), book_answers, MOULD, [], [1, 2])
        self.refuses(BadNumbers(3), book_answers, MOULD, [], [1, 2, 3, 4])


class PowerAsksTest(Case):
    """Point 1.6: power_asks."""

    def test_powers(self):
        for kind, length, many in itertools.product(("column", "row"), range(1, 7), range(9)):
            expected = tuple((kind, tuple(base ** power for base in range(length))) for power in range(many))
            self.gives(expected, power_asks, kind, length, many)
            self.gives(expected, power_asks, many=many, length=length, kind=kind)

    def test_no_asks(self):
        self.gives((), power_asks, "column", 3, 0)

    def test_zero_to_the_power_of_zero_is_one(self):
        self.gives((("row", (1,)), ("row", (0,))), power_asks, "row", 1, 2)

    def test_nothing_is_checked(self):
        self.gives((("x", ()),), power_asks, "x", 0, 1)
        self.assertEqual(len(power_asks("row", 20, 30)), 30)

    def test_they_are_asks(self):
        mould = Mould(6, 6, [])
        for kind in ("column", "row"):
            book = power_asks(kind, 6, 8)
            self.gives(book, check_book, mould, book)
