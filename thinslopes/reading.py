"""Letters that stand alone in an answer, and so are read at once."""

from thinslopes.asks import span_rows
from thinslopes.errors import BadLetter, NoAnswer
from thinslopes.groupings import book_of, check_grouping
from thinslopes.moulds import check_letter
from thinslopes.ratios import is_sequence, is_whole, unshared


def check_letters(mould, letters):
    if not is_sequence(letters):
        raise BadLetter(letters)
    return tuple(sorted(set([check_letter(mould, letter) for letter in letters])))


def check_answer_number(answer, many):
    if not is_whole(answer, 0, many - 1):
        raise NoAnswer(unshared(answer))
    return answer


def held_letters(rows):
    """Return the letters that each answer has, ascending."""
    return [tuple([letter for letter, times in enumerate(row) if times != 0]) for row in rows]


def without_known(letters, known):
    return tuple([letter for letter in letters if letter not in known])


def left_letters(mould, book, answer, known=()):
    rows = span_rows(mould, book)
    check_answer_number(answer, len(rows))
    return without_known(held_letters(rows)[answer], check_letters(mould, known))


def read_letters(mould, book):
    first = {}
    for answer, letters in enumerate(held_letters(span_rows(mould, book))):
        if len(letters) == 1:
            first.setdefault(letters[0], answer)
    return tuple([(letter, first[letter]) for letter in sorted(first)])


def side_read(web, grouping):
    groups = check_grouping(web.points, grouping)
    return len(read_letters(web.as_mould(), book_of(groups))) == len(web)
