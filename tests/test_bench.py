import random

from tests.helper import Case, holds_list, random_book, random_mould, wrong_answers, wrong_books
from tests.test_edits import BOOK, COLUMN, POOL, ROW, SMALL, in_lists, random_pool, wrong_pools
from tests.test_lost import LONG, THIRTEEN
from tests.test_mends import LINE, LINE_BOOK, LINE_POOL, goals_of, meets, wrong_goals
from thinslopes.asks import answers_many, book_answers
from thinslopes.bench import Bench
from thinslopes.edits import edited
from thinslopes.errors import (
    BadAnswers, BadBench, BadEdit, BadGoal, Clashing, NoAnswers, NothingDone, TooMany,
)
from thinslopes.moulds import Mould
from thinslopes.recover import Clash, clash_fault, recovered_from
from thinslopes.webs import Web

ZERO = (0, 1)


def state(bench):
    return (bench.now_mould, bench.now_book, bench.now_answers, bench.done_log)


class BenchCase(Case):
    def stands(self, bench, mould, book, answers, log):
        self.same(state(bench), (mould, book, answers, log))
        self.assertFalse(holds_list(state(bench)))

    def unchanged(self, bench, call):
        before = state(bench)
        result = call()
        self.same(state(bench), before)
        return result


class ConstructorTest(BenchCase):
    """Point 10.9."""

    def test_a_new_bench(self):
        self.stands(Bench(SMALL, in_lists(BOOK)), SMALL, BOOK, None, ())
        self.stands(Bench(book=(), mould=Mould(1, 1, [])), Mould(1, 1, []), (), None, ())
        bench = Bench(SMALL, list(BOOK))
        self.same((bench.mould, bench.book), (SMALL, BOOK))

    def test_things_that_are_no_moulds(self):
        for thing in [None, 0, "2x2:", (), (2, 3, ()), Web(2, []), Mould, Bench(SMALL, ()), object()]:
            self.refuses(BadBench(), Bench, thing, None)

    def test_books(self):
        self.refuses_in_order(Bench, (SMALL, ()), [(1, wrong_books(SMALL))])

    def test_later_changes_have_no_effect(self):
        book = in_lists(BOOK)
        bench = Bench(SMALL, book)
        book[0][1][0] = 9
        book.pop()
        self.stands(bench, SMALL, BOOK, None, ())


class ChangeTest(BenchCase):
    """Point 10.10: change."""

    def test_changes_and_their_log(self):
        bench = Bench(SMALL, BOOK)
        self.assertIsNone(self.taken(bench.change, *in_lists(POOL)))
        mould, book = edited(SMALL, BOOK, POOL)
        log = (("change", POOL),)
        self.stands(bench, mould, book, None, log)
        bench.change(("same", (1, 0), (0, 2)), ["unask", 1])
        log += (("change", (("same", (0, 2), (1, 0)), ("unask", 1))),)
        self.stands(bench, *edited(mould, book, log[1][1]), None, log)

    def test_no_edits_at_all(self):
        bench = Bench(LINE, LINE_BOOK)
        bench.put_answers([4])
        self.assertIsNone(bench.change())
        self.stands(bench, LINE, LINE_BOOK, None, (("answers", ((4, 1),)), ("change", ())))

    def test_the_edits_speak_of_the_mould_and_the_book_as_they_are(self):
        bench = Bench(SMALL, ())
        bench.change(("add", (0, 2)))
        self.refuses(BadEdit(0, "cell"), bench.change, ("add", (0, 2)))
        bench.change(("drop", (0, 2)), ("ask", ROW))
        self.refuses(BadEdit(0, "index"), bench.change, ("unask", 1))
        self.assertEqual(len(bench.done_log), 2)

    def test_errors_change_nothing(self):
        for thing, error in wrong_pools():
            bench = Bench(SMALL, BOOK)
            bench.put_answers((0,) * 7)
            before = state(bench)
            if isinstance(thing, (list, tuple)):
                self.refuses(error, bench.change, *thing)
            self.same(state(bench), before)
        bench = Bench(SMALL, [COLUMN] * 8)
        self.refuses(BadEdit(0, "full"), bench.change, ("ask", ROW))
        self.refuses(BadEdit(0, "many"), bench.change, *[("unask", at) for at in range(7)])
        self.stands(bench, SMALL, (COLUMN,) * 8, None, ())


class PutAnswersTest(BenchCase):
    """Point 10.10: put_answers."""

    def test_answers_and_their_log(self):
        bench = Bench(LINE, LINE_BOOK)
        self.assertIsNone(self.taken(bench.put_answers, [(1, 2)]))
        self.stands(bench, LINE, LINE_BOOK, ((1, 2),), (("answers", ((1, 2),)),))
        # Also in the place of earlier ones.
        bench.put_answers(numbers=(7,))
        self.stands(bench, LINE, LINE_BOOK, ((7, 1),), (("answers", ((1, 2),)), ("answers", ((7, 1),))))
        empty = Bench(LINE, ())
        empty.put_answers([])
        self.stands(empty, LINE, (), (), (("answers", ()),))

    def test_a_change_makes_them_none(self):
        bench = Bench(LINE, LINE_BOOK)
        bench.put_answers([3])
        bench.change(("drop", (0, 1)))
        self.assertIsNone(bench.now_answers)

    def test_wrong_answers(self):
        bench = Bench(SMALL, [COLUMN])
        bench.put_answers([1, 2])
        for thing, error in wrong_answers(2):
            before = state(bench)
            self.refuses(error, bench.put_answers, thing)
            self.same(state(bench), before)

    def test_answers_that_clash(self):
        book = [COLUMN, COLUMN]
        bench = Bench(SMALL, book)
        bench.put_answers((1, 2, 1, 2))
        before = state(bench)
        for answers in ((1, 2, 1, 3), [0, 0, (1, 2), 0]):
            with self.assertRaises(Clashing) as caught:
                bench.put_answers(answers)
            self.same(state(bench), before)
            self.assertIs(type(caught.exception.weights), tuple)
            self.assertIsNone(clash_fault(SMALL, book, answers, Clash(caught.exception.weights)))
        # A wrong number is told ahead of a clash.
        self.refuses(BadAnswers(3, "number"), bench.put_answers, (1, 2, 7, None))

    def test_later_changes_have_no_effect(self):
        bench = Bench(LINE, LINE_BOOK)
        answers = [5]
        bench.put_answers(answers)
        answers[0] = 6
        self.same(bench.now_answers, ((5, 1),))


class TakeBackTest(BenchCase):
    """Point 10.10: take_back."""

    def test_to_the_start_and_once_more(self):
        chance = random.Random(361)
        for _ in range(25):
            mould = random_mould(chance, chance.randint(1, 3), chance.randint(1, 3))
            bench = Bench(mould, random_book(chance, mould, 3, 2))
            states = [state(bench)]
            for _ in range(chance.randint(0, 6)):
                now, book = bench.now_mould, bench.now_book
                if chance.random() < 0.5:
                    bench.change(*random_pool(chance, now, book, 3))
                else:
                    numbers = [chance.randint(-3, 3) for _ in range(now.letters_many)]
                    bench.put_answers(book_answers(now, book, numbers))
                states.append(state(bench))
                self.assertEqual(len(bench.done_log), len(states) - 1)
            while len(states) > 1:
                self.same(state(bench), states.pop())
                self.assertIsNone(bench.take_back())
            self.same(state(bench), states[0])
            self.refuses(NothingDone(), bench.take_back)
            self.same(state(bench), states[0])

    def test_answers_come_back(self):
        bench = Bench(LINE, LINE_BOOK)
        bench.put_answers([3])
        bench.put_answers([4])
        bench.change(("drop", (0, 1)))
        bench.take_back()
        self.same(bench.now_answers, ((4, 1),))
        bench.take_back()
        self.same(bench.now_answers, ((3, 1),))
        bench.take_back()
        self.assertIsNone(bench.now_answers)
        # What is taken back is forgotten.
        bench.change()
        self.stands(bench, LINE, LINE_BOOK, None, (("change", ()),))


class KnownTableTest(BenchCase):
    """Point 10.11: known_table."""

    def test_tables_of_fillings(self):
        chance = random.Random(362)
        kinds = set()
        for _ in range(40):
            mould = random_mould(chance, chance.randint(1, 3), chance.randint(1, 3))
            book = random_book(chance, mould, 3, 2)
            bench = Bench(mould, book)
            numbers = [chance.choice((0, 1, -2, (1, 3))) for _ in range(mould.letters_many)]
            bench.put_answers(book_answers(mould, book, numbers))
            known = recovered_from(mould, book, bench.now_answers).numbers
            table = self.unchanged(bench, bench.known_table)
            for row, line in enumerate(mould.filled(numbers)):
                for column, ratio in enumerate(line):
                    letter = mould.letter_at(row, column)
                    right = ZERO if letter is None else None if known[letter] is None else ratio
                    self.same(table[row][column], right)
                    kinds.add((letter is None, right is None))
            self.assertEqual((len(table), {len(line) for line in table}), (mould.height, {mould.width}))
            self.assertFalse(holds_list(table))
        self.assertEqual(len(kinds), 3)

    def test_examples(self):
        bench = Bench(SMALL, [COLUMN])
        bench.put_answers([3, (1, 2)])
        self.same(bench.known_table(), (((3, 1), None, ZERO), ((-11, 2), ZERO, (3, 1))))
        empty = Bench(Mould(1, 2, []), ())
        empty.put_answers(())
        self.same(empty.known_table(), ((ZERO, ZERO),))

    def test_without_answers(self):
        bench = Bench(SMALL, [COLUMN])
        self.refuses(NoAnswers(), bench.known_table)
        bench.put_answers([1, 2])
        bench.change(("unask", 0))
        before = state(bench)
        self.refuses(NoAnswers(), bench.known_table)
        self.same(state(bench), before)
        bench.take_back()
        self.same(bench.known_table(), (((1, 1), None, ZERO), ((0, 1), ZERO, (1, 1))))


class TrialTest(BenchCase):
    """Point 10.11: is_met and trial."""

    def test_goals(self):
        chance = random.Random(363)
        seen = set()
        for _ in range(40):
            mould = random_mould(chance, chance.randint(1, 3), chance.randint(1, 3))
            book = random_book(chance, mould, 3, 2)
            bench = Bench(mould, book)
            bench.change(*random_pool(chance, mould, book, 2))
            now, asks = bench.now_mould, bench.now_book
            for goal in chance.sample(goals_of(mould), 4):
                edits = random_pool(chance, now, asks, 3)
                behind = edited(now, asks, edits)
                few = max(answers_many(now, asks), answers_many(*behind)) <= 12
                if goal[0] != "lost" or few:
                    right = self.unchanged(bench, lambda: bench.is_met(in_lists(goal)))
                    self.same(right, meets(now, asks, goal))
                    right = self.unchanged(bench, lambda: bench.trial(*in_lists(edits), goal=goal))
                    self.same(right, meets(*behind, goal))
                    bench.change(*edits)
                    self.same(bench.is_met(goal), right)
                    bench.take_back()
                    seen.add((goal[0], right))
        self.assertEqual(len(seen), 10)

    def test_the_example_of_point_10_12(self):
        bench = Bench(LINE, LINE_BOOK)
        goal = ("told", (0, 1))
        self.same(bench.is_met(goal), False)
        for lot, right in (((), False), ((0,), False), ((1,), False), ((2,), True), ((3,), True), ((0, 1), True)):
            self.same(bench.trial(*[LINE_POOL[at] for at in lot], goal=goal), right)
        self.stands(bench, LINE, LINE_BOOK, None, ())

    def test_the_goal_goes_by_its_name_alone(self):
        with self.assertRaises(TypeError):
            Bench(LINE, LINE_BOOK).trial(("all",))

    def test_errors_of_trial(self):
        bench = Bench(SMALL, BOOK)
        bench.put_answers((0,) * 7)
        before = state(bench)
        for thing, error in wrong_pools():
            if isinstance(thing, (list, tuple)):
                self.refuses(error, bench.trial, *thing, goal=("all",))
                self.refuses(error, bench.trial, *thing, goal=None)
        for goal, error in wrong_goals():
            self.refuses(error, bench.trial, *POOL, goal=goal)
            self.refuses(error, bench.trial, goal=goal)
            self.refuses(error, bench.is_met, goal)
        self.same(state(bench), before)

    def test_twelve_and_thirteen_answers(self):
        goal = ("lost", (0, 0), 1)
        bench = Bench(LONG, THIRTEEN)
        self.refuses(TooMany(12), bench.is_met, goal)
        self.refuses(TooMany(12), bench.trial, goal=goal)
        # The changed book is what counts here.
        self.same(bench.trial(("unask", 2), goal=goal), True)
        self.same(bench.trial(("unask", 0), goal=goal), True)
        self.same(bench.trial(("unask", 0), goal=("lost", (0, 0), 2)), False)
        small = Bench(LONG, THIRTEEN[:2])
        self.same(small.is_met(goal), True)
        self.refuses(TooMany(12), small.trial, ("ask", THIRTEEN[2]), goal=goal)
        self.refuses(TooMany(12), small.trial, ("ask", THIRTEEN[2]), ("drop", (0, 0)), goal=goal)
        self.refuses(BadGoal("lost"), small.trial, ("ask", THIRTEEN[2]), goal=("lost", (0, 0), 3))
        self.stands(small, LONG, (("row", (1,)), ("row", (1,))), None, ())
