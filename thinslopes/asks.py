"""Asks and books: what a table is multiplied with, and which letters stand in each answer."""

from thinslopes.errors import BadAsk
from thinslopes.moulds import check_numbers
from thinslopes.ratios import ZERO, is_sequence, is_whole, ratio_minus, ratio_plus, ratio_times

KINDS = ("column", "row")
MOST_ASKS = 8
MOST_NUMBER = 1000000000


def check_ask(mould, ask, index=0):
    if not is_sequence(ask) or len(ask) != 2 or ask[0] not in KINDS:
        raise BadAsk(index, "kind")
    kind, numbers = ask
    length = mould.width if kind == "column" else mould.height
    if not is_sequence(numbers) or len(numbers) != length:
        raise BadAsk(index, "length")
    if not all([is_whole(number, -MOST_NUMBER, MOST_NUMBER) for number in numbers]):
        raise BadAsk(index, "number")
    return (kind, tuple(numbers))


def check_book(mould, book):
    if not is_sequence(book) or len(book) > MOST_ASKS:
        raise BadAsk(0, "many")
    return tuple([check_ask(mould, ask, index) for index, ask in enumerate(book)])


def answers_of_kind(mould, kind):
    return mould.height if kind == "column" else mould.width


def answers_many(mould, book):
    return sum([answers_of_kind(mould, kind) for kind, numbers in check_book(mould, book)])


def ask_rows(mould, kind, numbers):
    """Return the span rows of one ask, as lists."""
    rows = [[0] * mould.letters_many for answer in range(answers_of_kind(mould, kind))]
    for (row, column), letter in zip(mould.cells, mould.letters):
        if kind == "column":
            rows[row][letter] += numbers[column]
        else:
            rows[column][letter] += numbers[row]
    return rows


def span_rows(mould, book):
    rows = []
    for kind, numbers in check_book(mould, book):
        rows.extend([tuple(row) for row in ask_rows(mould, kind, numbers)])
    return tuple(rows)


def row_sum(row, ratios):
    """Return the sum of the ratios, each as many times as the row says."""
    total = ZERO
    for times, ratio in zip(row, ratios):
        total = ratio_plus(total, ratio_times((times, 1), ratio))
    return total


def less_known(row, answer, numbers):
    """Return the answer less the sum of the letters that have a number."""
    for times, number in zip(row, numbers):
        if times != 0 and number is not None:
            answer = ratio_minus(answer, ratio_times((times, 1), number))
    return answer


def book_answers(mould, book, numbers):
    rows = span_rows(mould, book)
    ratios = check_numbers(mould, numbers)
    return tuple([row_sum(row, ratios) for row in rows])


def power_asks(kind, length, many):
    asks = []
    powers = [1] * length
    for _ in range(many):
        asks.append((kind, tuple(powers)))
        powers = [power * base for base, power in enumerate(powers)]
    return tuple(asks)
