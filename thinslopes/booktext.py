"""Books written as a line of text, and read from one."""

from thinslopes.asks import MOST_ASKS, MOST_NUMBER, check_book
from thinslopes.errors import BadText

LETTERS = {"column": "c", "row": "r"}
KINDS_BY_LETTER = {"c": "column", "r": "row"}
DIGITS = "0123456789"


def book_text(mould, book):
    asks = []
    for kind, numbers in check_book(mould, book):
        asks.append(" ".join([LETTERS[kind], *[str(number) for number in numbers]]))
    return "; ".join(asks)


def read_number(word):
    """Return the number that the word writes, or None."""
    digits = word[1:] if word.startswith("-") else word
    # Python refuses to read very long words, so they are barred by their length first.
    if len(digits) > len(str(MOST_NUMBER)) or not digits or not all([sign in DIGITS for sign in digits]):
        return None
    number = int(word)
    return number if str(number) == word and -MOST_NUMBER <= number <= MOST_NUMBER else None


def read_numbers(words, start, many):
    """Return the numbers of the words from `start` on, and whether a ";" behind them demands another ask."""
    numbers = []
    goes_on = False
    for index in range(start, start + many):
        if index == len(words):
            raise BadText(index)
        goes_on = index == start + many - 1 and words[index].endswith(";")
        number = read_number(words[index][:-1] if goes_on else words[index])
        if number is None:
            raise BadText(index)
        numbers.append(number)
    return tuple(numbers), goes_on


def read_book(mould, text):
    if not isinstance(text, str):
        raise BadText(0)
    if text == "":
        return ()
    words = text.split(" ")
    book = []
    at = 0
    goes_on = True
    while goes_on:
        if len(book) == MOST_ASKS or at == len(words) or words[at] not in KINDS_BY_LETTER:
            raise BadText(at)
        kind = KINDS_BY_LETTER[words[at]]
        many = mould.width if kind == "column" else mould.height
        numbers, goes_on = read_numbers(words, at + 1, many)
        book.append((kind, numbers))
        at += 1 + many
    if at < len(words):
        raise BadText(at)
    return tuple(book)
