import inspect
import itertools
import random

from tests.helper import (
    Case, as_fraction, as_ratios, lots, not_sequences, not_wholes, rank_by_fractions, wrong_answers, wrong_books,
    wrong_letters,
)
from tests.test_reading import BOOK, CASES, LETTERS, MOULD
from thinslopes.asks import book_answers, power_asks, span_rows
from thinslopes.errors import CantTake, NoAnswer, TooMany
from thinslopes.groupings import book_of
from thinslopes.moulds import Mould
from thinslopes.reading import left_letters
from thinslopes.taking import (
    Taken, Taking, fewest_known, is_stuck, numbers_taken, stuck_lots, taken_fault, taken_wholly,
)
from thinslopes.webs import Web

# The example behind point 5.13: the answers are 00 + 01, 01 + 12 and 12.
PATH = Web(3, [(0, 0), (0, 1), (1, 2)]).as_mould()
ONE_GROUP = book_of((0, 0, 0))
FULL = Mould(6, 6, list(itertools.product(range(6), repeat=2)))


def held(mould, book):
    return [{at for at, number in enumerate(row) if number} for row in span_rows(mould, book)]


def missing_of(mould, book, known=()):
    """The letters that are never taken, by taking any as long as one can be."""
    letters = set(range(mould.letters_many)) - set(known)
    answers = held(mould, book)
    while any(len(has & letters) == 1 for has in answers):
        for has in answers:
            if len(has & letters) == 1:
                letters -= has
    return tuple(sorted(letters))


class TakingTest(Case):
    """Point 5.4."""

    def state(self, taking, steps, known, missing):
        self.same((taking.steps_taken, taking.known_letters, taking.letters_missing), (steps, known, missing))

    def test_after_each_call(self):
        taking = Taking(PATH, ONE_GROUP)
        self.state(taking, (), (), (0, 1, 2))
        self.same([taking.left_in(answer) for answer in range(3)], [(0, 1), (1, 2), (2,)])
        self.gives(None, taking.take, 2, 2)
        self.state(taking, ((2, 2),), (2,), (0, 1))
        self.same([taking.left_in(answer) for answer in range(3)], [(0, 1), (1,), ()])
        self.gives(None, taking.take, answer=1, letter=1)
        self.state(taking, ((2, 2), (1, 1)), (1, 2), (0,))
        self.gives(None, taking.take, 0, 0)
        self.state(taking, ((2, 2), (1, 1), (0, 0)), (0, 1, 2), ())
        self.same([taking.left_in(answer) for answer in range(3)], [(), (), ()])

    def test_letters_known_at_the_start(self):
        taking = Taking(known=[1, 1], book=ONE_GROUP, mould=PATH)
        self.state(taking, (), (1,), (0, 2))
        taking.take(0, 0)
        self.state(taking, ((0, 0),), (0, 1), (2,))
        self.state(Taking(PATH, [], (2, 0, 1)), (), (0, 1, 2), ())
        self.state(Taking(Mould(1, 1, []), []), (), (), ())

    def test_a_call_that_raises_changes_nothing(self):
        taking = Taking(PATH, ONE_GROUP, [1])
        taking.take(2, 2)

        def unchanged():
            self.state(taking, ((2, 2),), (1, 2), (0,))
            self.same([taking.left_in(answer) for answer in range(3)], [(0,), (), ()])

        for letter, answer in ((2, 2), (1, 1), (0, 1), (0, 2), (1, 0), (2, 0)):
            self.refuses(CantTake(letter), taking.take, letter, answer)
            unchanged()
        for thing, error in wrong_letters(PATH):
            self.refuses(error, taking.take, thing, None)
            unchanged()
        for thing in [*not_wholes(), -1, 3, [0]]:
            self.refuses(NoAnswer(thing), taking.take, 2, thing)
            self.refuses(NoAnswer(thing), taking.left_in, thing)
            unchanged()
        taking.take(0, 0)
        self.state(taking, ((2, 2), (0, 0)), (0, 1, 2), ())

    def test_every_order_ends_with_the_same_letters(self):
        chance = random.Random(92)
        for mould, book in CASES:
            answers = range(len(span_rows(mould, book)))
            for known in ((), (0,) if mould.letters_many else ()):
                for _ in range(3):
                    taking = Taking(mould, book, known)
                    while True:
                        able = [(taking.left_in(answer)[0], answer) for answer in answers
                                if len(taking.left_in(answer)) == 1]
                        if not able:
                            break
                        letter, answer = chance.choice(able)
                        self.same(taking.left_in(answer), left_letters(mould, book, answer, taking.known_letters))
                        taking.take(letter, answer)
                    self.same(taking.letters_missing, missing_of(mould, book, known))
                    self.gives(None, taken_fault, mould, book, taking.steps_taken, known)

    def test_later_changes_have_no_effect(self):
        book, known = [["column", [1, 1, 1]]], [0]
        taking = Taking(PATH, book, known)
        book[0][1][0] = 0
        book.clear()
        known.append(1)
        self.state(taking, (), (0,), (1, 2))
        self.same(taking.left_in(0), (1,))

    def test_the_arguments_are_attributes(self):
        taking = Taking(PATH, [["column", [1, 1, 1]]], [1, 0])
        self.same((taking.mould, taking.book, taking.known), (PATH, (("column", (1, 1, 1)),), (0, 1)))

    def test_errors(self):
        self.refuses_in_order(Taking, (MOULD, BOOK, ()), [(1, wrong_books(MOULD)), (2, LETTERS)])


class TakenWhollyTest(Case):
    """Points 5.5 and 5.7."""

    def expected(self, mould, book, known):
        """By the words of point 5.5."""
        answers = held(mould, book)
        many = mould.letters_many
        turns = [0 if letter in known else None for letter in range(many)]
        steps = []
        for turn in range(1, many + 1):
            before = {letter for letter in range(many) if turns[letter] is not None}
            for letter in range(many):
                alone = [answer for answer, has in enumerate(answers) if has - before == {letter}]
                if turns[letter] is None and alone:
                    turns[letter] = turn
                    steps.append((letter, alone[0]))
        return Taken(tuple(steps), tuple(turns), tuple(at for at in range(many) if turns[at] is None))

    def test_turns(self):
        for mould, book in CASES:
            for known in ((), tuple(range(0, mould.letters_many, 3)), tuple(range(mould.letters_many))):
                result = self.expected(mould, book, known)
                self.gives(result, taken_wholly, mould, book, list(known))
                self.assertEqual(result.missing, missing_of(mould, book, known))
                self.gives(None, taken_fault, mould, book, result.steps, known)

    def test_the_example_behind_point_5_13(self):
        self.same(span_rows(PATH, ONE_GROUP), ((1, 1, 0), (0, 1, 1), (0, 0, 1)))
        self.gives(Taken(((2, 2), (1, 1), (0, 0)), (3, 2, 1), ()), taken_wholly, PATH, ONE_GROUP)

    def test_edges(self):
        self.gives(Taken((), (), ()), taken_wholly, Mould(1, 2, []), [])
        self.gives(Taken((), (None, None, None), (0, 1, 2)), taken_wholly, PATH, [])
        self.gives(Taken((), (0, 0, 0), ()), taken_wholly, known=[2, 1, 0], book=ONE_GROUP, mould=PATH)

    def test_the_turn_is_never_greater_than_the_depth(self):
        chance = random.Random(93)
        for mould, book in CASES:
            answers = held(mould, book)
            known = tuple(range(0, mould.letters_many, 4))
            turns = taken_wholly(mould, book, known).turns
            depths = {letter: 0 for letter in known}
            taking = Taking(mould, book, known)
            while True:
                able = [(taking.left_in(answer)[0], answer) for answer in range(len(answers))
                        if len(taking.left_in(answer)) == 1]
                if not able:
                    break
                letter, answer = chance.choice(able)
                taking.take(letter, answer)
                depths[letter] = 1 + max([depths[other] for other in answers[answer] - {letter}], default=0)
                self.assertLessEqual(turns[letter], depths[letter])

    def test_errors(self):
        self.refuses_in_order(taken_wholly, (MOULD, BOOK, ()), [(1, wrong_books(MOULD)), (2, LETTERS)])


class TakenFaultTest(Case):
    """Point 5.6."""

    def judged(self, word, steps, known=()):
        self.gives(word, taken_fault, PATH, ONE_GROUP, steps, known)

    def test_right_steps(self):
        self.judged(None, ())
        self.judged(None, [[2, 2], (1, 1), [0, 0]])
        self.judged(None, ((2, 2),))
        self.judged(None, [(0, 0), (2, 1)], [1])
        self.judged(None, [(2, 2), (0, 0)], [1])
        self.gives(None, taken_fault, steps=[(2, 2)], book=ONE_GROUP, mould=PATH)

    def test_step(self):
        for thing in not_sequences():
            self.judged("step", thing)
            self.judged("step", [(2, 2), thing])
        for thing in ((), (1,), [1, 1, 1], "11"):
            self.judged("step", [(2, 2), thing, None])

    def test_letter(self):
        for thing in [*not_wholes(), -1, 3, 2]:
            self.judged("letter", [(2, 2), [thing, 1]])
        self.judged("letter", [(1, 1)], [1, 2])

    def test_answer(self):
        for thing in [*not_wholes(), -1, 3]:
            self.judged("answer", [(2, 2), (1, thing)])

    def test_alone(self):
        self.judged("alone", [(1, 1)])
        self.judged("alone", [(2, 2), (0, 1)])
        self.judged("alone", [(2, 2), (0, 0)])
        self.judged("alone", [(2, 2), (0, 2)])

    def test_two_words_at_once(self):
        self.judged("letter", [(5, 9)])
        self.judged("answer", [(0, 9)])
        self.judged("alone", [(0, 0), None])
        self.judged("step", [(2, 2), (1, 1, 1), (7, 7)])

    def test_every_row_of_steps(self):
        for steps in itertools.permutations([(0, 0), (1, 0), (1, 1), (2, 1), (2, 2)], 3):
            taking = Taking(PATH, ONE_GROUP)
            word = None
            for letter, answer in steps:
                if word is None:
                    if letter in taking.known_letters:
                        word = "letter"
                    elif taking.left_in(answer) != (letter,):
                        word = "alone"
                    else:
                        taking.take(letter, answer)
            self.judged(word, steps)

    def test_errors(self):
        wrong = [(1, wrong_books(MOULD)), (3, LETTERS)]
        self.refuses_in_order(taken_fault, (MOULD, BOOK, None, ()), wrong)


class StuckTest(Case):
    """Points 5.8 and 5.9."""

    def stuck(self, mould, book):
        """All stuck lots of the letters, gone through one by one."""
        answers = held(mould, book)
        return [lot for lot in lots(range(mould.letters_many)) if not any(len(has & set(lot)) == 1 for has in answers)]

    def test_against_all_lots(self):
        counts = set()
        for mould, book in CASES:
            if mould.letters_many > 8:
                continue
            stuck = self.stuck(mould, book)
            for lot in lots(range(mould.letters_many)):
                self.gives(lot in stuck, is_stuck, mould, book, [*lot[::-1], *lot])
            least = [lot for lot in stuck if lot and not any(
                other and other != lot and set(other) <= set(lot) for other in stuck)]
            self.same(list(stuck_lots(mould, book)), least)
            counts.add(len(least))
            joined = tuple(sorted({letter for lot in stuck for letter in lot}))
            self.assertEqual(joined, taken_wholly(mould, book).missing)
            able = [lot for lot in lots(range(mould.letters_many)) if missing_of(mould, book, lot) == ()]
            self.gives(able[0], fewest_known, mould, book)
            for lot in lots(range(mould.letters_many)):
                self.assertIs(lot in able, all(set(lot) & set(other) for other in stuck if other))
            self.assertGreaterEqual(len(able[0]), mould.letters_many - rank_by_fractions(span_rows(mould, book)))
        self.assertLessEqual({0, 1, 2, 3}, counts)

    def test_examples(self):
        square = Mould(2, 2, [(0, 0), (0, 1), (1, 0), (1, 1)])
        book = [("column", (1, 1)), ("row", (1, 1))]
        self.gives(True, is_stuck, square, book, [0, 1, 2, 3])
        self.gives(False, is_stuck, square, book, [0, 1, 2])
        self.gives(True, is_stuck, lot=(), book=book, mould=square)
        self.same(list(stuck_lots(square, book)), [(0, 1, 2, 3)])
        self.gives((0,), fewest_known, square, book)
        self.same(list(stuck_lots(PATH, ONE_GROUP)), [])
        self.gives((), fewest_known, PATH, ONE_GROUP)

    def test_the_empty_book_and_no_letters(self):
        self.same(list(stuck_lots(PATH, [])), [(0,), (1,), (2,)])
        self.gives((0, 1, 2), fewest_known, PATH, [])
        self.same(list(stuck_lots(Mould(2, 2, []), [("row", (1, 1))])), [])
        self.gives((), fewest_known, Mould(2, 2, []), [])
        self.gives(True, is_stuck, Mould(2, 2, []), [], [])

    def test_it_is_a_generator(self):
        self.assertTrue(inspect.isgeneratorfunction(stuck_lots))

    def test_10_letters_missing_and_more(self):
        for many in (10, 11, 36):
            mould = Mould(6, 6, FULL.cells[:many])
            for book in ([], power_asks("column", 6, 4) + power_asks("row", 6, 4)):
                missing = missing_of(mould, book)
                if len(missing) > 10:
                    self.refuses(TooMany(10), lambda *args: list(stuck_lots(*args)), mould, book)
                    self.refuses(TooMany(10), fewest_known, mould, book)
                else:
                    self.assertEqual(len(list(stuck_lots(mould, book))) > 0, bool(missing))
                    self.assertEqual(missing_of(mould, book, fewest_known(mould, book)), ())
        self.gives(tuple(range(10)), fewest_known, Mould(6, 6, FULL.cells[:10]), [])

    def test_errors(self):
        self.refuses_in_order(is_stuck, (MOULD, BOOK, ()), [(1, wrong_books(MOULD)), (2, LETTERS)])
        for call in (fewest_known, lambda *args: list(stuck_lots(*args))):
            self.refuses_in_order(call, (MOULD, BOOK), [(1, wrong_books(MOULD))])


class NumbersTakenTest(Case):
    """Point 5.10."""

    def test_the_numbers_of_a_filling(self):
        chance = random.Random(94)
        for mould, book in CASES:
            numbers = as_ratios(as_fraction((chance.randint(-9, 9) * 2 + 1, 2)) for _ in range(mould.letters_many))
            answers = book_answers(mould, book, numbers)
            missing = missing_of(mould, book)
            expected = tuple(None if at in missing else number for at, number in enumerate(numbers))
            self.gives(expected, numbers_taken, mould, book, list(answers))

    def test_other_answers_are_not_compared(self):
        # 2 is taken by answer 2, then 1 by answer 1, then 0 by answer 0; the other answers are not looked at.
        book = [*ONE_GROUP, ("row", (1, 1, 1))]
        self.gives(((9, 2), (-7, 2), (11, 2)), numbers_taken, PATH, book, [1, 2, (11, 2), 77, 77, 77])
        self.gives((None, None, None), numbers_taken, PATH, [], [])

    def test_numbers_of_the_answer_row_divide(self):
        mould = Mould(2, 2, [(0, 0), (0, 1), (1, 1)])
        book = [("column", (2, 3)), ("row", (0, 5))]
        # 2 * 00 + 3 * 01, 3 * 11, nothing, 5 * 11.
        self.gives((None, None, (1, 3)), numbers_taken, mould, book, [7, 1, 0, 99])
        book = [("column", (2, 3)), ("row", (-4, 0))]
        # 2 * 00 + 3 * 01, 3 * 11, -4 * 00, -4 * 01.
        self.gives(((-1, 2), (-1, 4), (1, 6)), numbers_taken, mould, book, [50, (1, 2), 2, 1])

    def test_errors(self):
        wrong = [(1, wrong_books(MOULD)), (2, wrong_answers(5))]
        self.refuses_in_order(numbers_taken, (MOULD, BOOK, [0] * 5), wrong)
