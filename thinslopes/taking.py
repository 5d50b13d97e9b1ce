"""Letters taken away one by one, each by an answer in which all others are known; and the lots that get stuck."""

from thinslopes.asks import check_book, less_known, span_rows
from thinslopes.errors import CantTake, TooMany
from thinslopes.lots import lots_of
from thinslopes.moulds import check_letter
from thinslopes.ratios import is_sequence, is_whole, ratio_over
from thinslopes.reading import check_answer_number, check_letters, held_letters, without_known
from thinslopes.recover import answer_ratios

MOST_MISSING = 10


class Taken:
    def __init__(self, steps, turns, missing):
        self.steps = steps
        self.turns = turns
        self.missing = missing


class Taking:
    def __init__(self, mould, book, known=()):
        self.mould = mould
        self.book = check_book(mould, book)
        self.known = check_letters(mould, known)
        self._held = held_letters(span_rows(mould, self.book))
        self._now_known = list(self.known)
        self._steps = []

    def left_in(self, answer):
        check_answer_number(answer, len(self._held))
        return without_known(self._held[answer], self._now_known)

    def take(self, letter, answer):
        check_letter(self.mould, letter)
        if self.left_in(answer) != (letter,):
            raise CantTake(letter)
        self._now_known.append(letter)
        self._steps.append((letter, answer))

    @property
    def steps_taken(self):
        return tuple(self._steps)

    @property
    def known_letters(self):
        return tuple(sorted(self._now_known))

    @property
    def letters_missing(self):
        return without_known(list(range(self.mould.letters_many)), self._now_known)


def next_turn(held, known):
    """Return the letters that can be taken now, each with the first answer that takes it."""
    first = {}
    for answer, letters in enumerate(held):
        left = without_known(letters, known)
        if len(left) == 1:
            first.setdefault(left[0], answer)
    return first


def taken_from(held, many, known):
    """Return what taking away does with `many` letters, some of which are known at the start."""
    turns = {letter: 0 for letter in known}
    steps = []
    turn = 0
    first = next_turn(held, turns)
    while first:
        turn += 1
        for letter in sorted(first):
            turns[letter] = turn
            steps.append((letter, first[letter]))
        first = next_turn(held, turns)
    letters = list(range(many))
    return Taken(tuple(steps), tuple([turns.get(letter) for letter in letters]), without_known(letters, turns))


def taken_wholly(mould, book, known=()):
    rows = span_rows(mould, book)
    return taken_from(held_letters(rows), mould.letters_many, check_letters(mould, known))


def step_word(held, many, known, step):
    if not is_sequence(step) or len(step) != 2:
        return "step"
    letter, answer = step
    if not is_whole(letter, 0, many - 1) or letter in known:
        return "letter"
    if not is_whole(answer, 0, len(held) - 1):
        return "answer"
    return None if without_known(held[answer], known) == (letter,) else "alone"


def taken_fault(mould, book, steps, known=()):
    held = held_letters(span_rows(mould, book))
    now_known = list(check_letters(mould, known))
    if not is_sequence(steps):
        return "step"
    for step in steps:
        word = step_word(held, mould.letters_many, now_known, step)
        if word is not None:
            return word
        now_known.append(step[0])
    return None


def is_lot_stuck(held, lot):
    return not any([len([letter for letter in letters if letter in lot]) == 1 for letters in held])


def is_stuck(mould, book, lot):
    held = held_letters(span_rows(mould, book))
    return is_lot_stuck(held, check_letters(mould, lot))


def check_missing(held, many):
    """Return the letters that are missing when nothing is known at the start; there must not be too many."""
    missing = taken_from(held, many, ()).missing
    if len(missing) > MOST_MISSING:
        raise TooMany(MOST_MISSING)
    return missing


def stuck_lots(mould, book):
    held = held_letters(span_rows(mould, book))
    missing = check_missing(held, mould.letters_many)
    found = []
    for size in range(1, len(missing) + 1):
        for lot in lots_of(missing, size):
            if is_lot_stuck(held, lot) and not any([without_known(other, lot) == () for other in found]):
                found.append(lot)
                yield lot


def fewest_known(mould, book):
    stuck = list(stuck_lots(mould, book))
    missing = check_missing(held_letters(span_rows(mould, book)), mould.letters_many)
    for size in range(len(missing) + 1):
        for lot in lots_of(missing, size):
            if all([without_known(other, lot) != other for other in stuck]):
                return lot
    return None


def numbers_taken(mould, book, answers):
    rows = span_rows(mould, book)
    ratios = answer_ratios(answers, len(rows))
    numbers = [None] * mould.letters_many
    for letter, answer in taken_from(held_letters(rows), mould.letters_many, ()).steps:
        left = less_known(rows[answer], ratios[answer], numbers)
        numbers[letter] = ratio_over(left, (rows[answer][letter], 1))
    return tuple(numbers)
