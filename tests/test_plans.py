import random

from tests.helper import NO_NUMBERS, Case, not_sequences, not_wholes, random_mould
from thinslopes.asks import answers_many, book_answers
from thinslopes.errors import BadNumbers, BadPath, BadPlan
from thinslopes.moulds import Mould
from thinslopes.plans import Played, check_plan, plan_book, play_plan, zero_book

SMALL = Mould(2, 3, [(0, 0), (0, 1), (1, 0), (1, 2)], [0, 1, 2, 0])
COLUMN = ("column", (1, 0, 2))
ROW = ("row", (1, -1))
END = ("end",)
# Asks a column, then a row if the first answer is 0; otherwise it asks no more.
PLAN = ("ask", COLUMN, ("if", 0, ("ask", ROW, ("if", 2, END, END)), ("if", 1, END, ("ask", ROW, END))))
PATHS = [(0, 0, 0, 0), (0, 0, 0, 1), (0, 1, 0), (0, 1, 1, 0)]


def in_lists(thing):
    return [in_lists(item) for item in thing] if isinstance(thing, tuple) else thing


def asks_in_a_row(many, end=END, ask=COLUMN):
    plan = end
    for _ in range(many):
        plan = ("ask", ask, plan)
    return plan


def parts_many(plan):
    return 1 + sum(parts_many(part) for part in plan[2:])


def random_ask(chance, mould, greatest=2):
    kind = chance.choice(("column", "row"))
    many = mould.width if kind == "column" else mould.height
    return (kind, tuple(chance.randint(-greatest, greatest) for _ in range(many)))


def random_part(chance, mould, parts, asks=()):
    """A plan of just so many parts, or of fewer where an end has to come sooner."""
    answers = answers_many(mould, asks)
    if parts == 1 or (answers == 0 and len(asks) == 8):
        return END
    if answers > 0 and parts >= 3 and (chance.random() < 0.5 or len(asks) == 8):
        zero = chance.randint(1, parts - 2)
        return ("if", chance.randrange(answers), random_part(chance, mould, zero, asks),
                random_part(chance, mould, parts - 1 - zero, asks))
    if len(asks) == 8:
        return END
    ask = random_ask(chance, mould)
    return ("ask", ask, random_part(chance, mould, parts - 1, (*asks, ask)))


def some_plans():
    """Couples of a mould and a plan of it."""
    chance = random.Random(191)
    found = [(SMALL, END), (SMALL, PLAN), (SMALL, asks_in_a_row(8)), (Mould(2, 2, []), asks_in_a_row(2, END, ROW))]
    for _ in range(60):
        mould = random_mould(chance, chance.randint(1, 3), chance.randint(1, 3))
        found.append((mould, random_part(chance, mould, chance.randint(1, 15))))
    return found


PLANS = some_plans()
WRONG_PLANS = [
    *[(thing, BadPlan((), "kind")) for thing in (*not_sequences(), (), [], ("ends",), (["end"],), ("end", 0))],
    (("ask", COLUMN, ("if", 2, END, END)), BadPlan((0,), "answer")),
    (["ask", ["column", [1, 1]], ["end"]], BadPlan((), "ask")),
    (asks_in_a_row(9), BadPlan((0,) * 8, "ask")),
]


def branches(part, path=(), book=()):
    """The path and the book of each branch."""
    if part[0] == "end":
        return [(path, book)]
    if part[0] == "ask":
        return branches(part[2], (*path, 0), (*book, part[1]))
    return branches(part[2], (*path, 0), book) + branches(part[3], (*path, 1), book)


def gone(mould, part, numbers, path=(), book=()):
    """The branch that a filling goes, and its answers, by the words of point 7.8."""
    answers = book_answers(mould, book, numbers)
    if part[0] == "end":
        return Played(path, answers)
    if part[0] == "ask":
        return gone(mould, part[2], numbers, (*path, 0), (*book, part[1]))
    side = 0 if answers[part[1]] == (0, 1) else 1
    return gone(mould, part[2 + side], numbers, (*path, side), book)


class CheckPlanTest(Case):
    """Point 7.8."""

    def wrong(self, path, what, plan, mould=SMALL):
        self.refuses(BadPlan(path, what), check_plan, mould, plan)
        self.refuses(BadPlan(path, what), check_plan, mould, in_lists(plan))

    def test_plans_come_back_in_tuples(self):
        for mould, plan in PLANS:
            self.gives(plan, check_plan, mould, plan)
            self.gives(plan, check_plan, mould, in_lists(plan))
        self.gives(PLAN, check_plan, plan=list(PLAN), mould=SMALL)
        self.gives(END, check_plan, SMALL, ["end"])

    def test_kind(self):
        for thing in [*not_sequences(), (), [], ("ends",), ("End",), (b"end",), (None,), (0,), (["end"],), ("end", END),
                      ("ask",), ("ask", COLUMN), ("ask", COLUMN, END, END), ("if", 0, END), ("if", 0, END, END, END)]:
            self.refuses(BadPlan((), "kind"), check_plan, SMALL, thing)
            self.refuses(BadPlan((0,), "kind"), check_plan, SMALL, ["ask", COLUMN, thing])
            self.refuses(BadPlan((0, 1), "kind"), check_plan, SMALL, ("ask", COLUMN, ("if", 1, END, thing)))

    def test_ask(self):
        for thing in [None, "column", (), ("columns", (1, 1, 1)), ("column", (1, 1)), ("row", [1, 1, 1]),
                      ("column", (1, True, 0)), ("row", (10 ** 9 + 1, 0)), ("row", (1, 1), 0)]:
            self.refuses(BadPlan((), "ask"), check_plan, SMALL, ("ask", thing, END))
            self.refuses(BadPlan((0, 0), "ask"), check_plan, SMALL, ("ask", ROW, ("if", 0, ["ask", thing, END], END)))

    def test_the_eighth_and_the_ninth_ask_on_a_path(self):
        self.gives(asks_in_a_row(8), check_plan, SMALL, asks_in_a_row(8))
        self.wrong((0,) * 8, "ask", asks_in_a_row(9))
        # Eight asks on each of two paths are no ninth one.
        both = ("ask", ROW, ("if", 0, asks_in_a_row(3), asks_in_a_row(3)))
        self.gives(both, check_plan, SMALL, both)
        self.wrong((0,) * 9, "ask", asks_in_a_row(4, ("if", 0, asks_in_a_row(5), END)))
        self.wrong((0,) * 4 + (1,) + (0,) * 4, "ask", asks_in_a_row(4, ("if", 0, END, asks_in_a_row(5))))

    def test_answer(self):
        for thing in [*not_wholes(), -1, 2]:
            self.refuses(BadPlan((0,), "answer"), check_plan, SMALL, ("ask", COLUMN, ("if", thing, END, END)))
        # A column ask gives two answers here, a row ask three.
        for asks, answers in ((0, 0), (1, 2), (3, 6)):
            self.wrong((0,) * asks, "answer", asks_in_a_row(asks, ("if", answers, END, END)))
        self.wrong((0,), "answer", ("ask", ROW, ("if", 3, END, END)))
        self.gives(("ask", ROW, ("if", 2, END, END)), check_plan, SMALL, ("ask", ROW, ("if", 2, END, END)))
        # The other path has given the answer.
        plan = ("ask", COLUMN, ("if", 0, ("ask", ROW, ("if", 4, END, END)), ("if", 4, END, END)))
        self.wrong((0, 1), "answer", plan)

    def test_the_fifteenth_and_the_sixteenth_part(self):
        three = ("if", 0, END, END)
        seven = ("if", 0, three, three)
        fifteen = ("ask", ROW, ("if", 0, seven, ("if", 0, three, ("ask", ROW, END))))
        self.assertEqual(parts_many(fifteen), 15)
        self.gives(fifteen, check_plan, SMALL, fifteen)
        sixteen = ("ask", ROW, ("if", 0, seven, seven))
        self.assertEqual(parts_many(sixteen), 16)
        self.wrong((0, 1, 1, 1), "many", sixteen)
        # 2 parts, 2 more, 7 and 3 come before the part at (0, 0, 1), which is the fifteenth.
        self.wrong((0, 0, 1, 0), "many", ("ask", ROW, ("if", 0, ("if", 0, ("if", 0, seven, three), seven), seven)))

    def test_many_stands_ahead_of_the_other_words(self):
        seven = ("if", 0, ("if", 0, END, END), ("if", 0, END, END))
        for last in (None, ("ask", None, END), ("if", 99, END, END)):
            plan = ("ask", ROW, ("if", 0, seven, ("if", 0, seven[2], ("if", 0, END, last))))
            self.wrong((0, 1, 1, 1), "many", plan)

    def test_a_plan_that_holds_itself(self):
        plan = ["ask", ROW, None]
        plan[2] = plan
        with self.assertRaises(BadPlan) as caught:
            check_plan(SMALL, plan)
        self.assertEqual((caught.exception.path, caught.exception.what), ((0,) * 8, "ask"))
        plan = ["if", 0, None, END]
        plan[2] = plan
        with self.assertRaises(BadPlan) as caught:
            check_plan(SMALL, ["ask", ROW, plan])
        self.assertEqual((caught.exception.path, caught.exception.what), ((0,) * 15, "many"))

    def test_which_of_two_wrong_parts_is_told(self):
        # A part comes before the parts below it, and zero with all below it before other.
        self.wrong((), "ask", ("ask", None, None))
        self.wrong((0,), "answer", ("ask", ROW, ("if", 3, None, None)))
        self.wrong((0, 0, 0), "kind", ("ask", ROW, ("if", 2, ("ask", COLUMN, None), None)))
        self.wrong((0, 0), "ask", ("ask", ROW, ("if", 2, ("ask", ("row",), END), None)))

    def test_later_changes_have_no_effect(self):
        plan = in_lists(PLAN)
        checked = check_plan(SMALL, plan)
        plan[1][1][0] = 7
        plan[2][2][1] = 7
        self.same(checked, PLAN)


class PlayPlanTest(Case):
    """Point 7.9."""

    def test_which_branch_a_filling_goes(self):
        chance = random.Random(192)
        ends = set()
        for mould, plan in PLANS:
            for _ in range(4):
                numbers = [chance.choice((0, 0, 1, -1, (1, 2), 3)) for _ in range(mould.letters_many)]
                right = gone(mould, plan, numbers)
                self.gives(right, play_plan, mould, in_lists(plan), numbers)
                ends.add(right.path[-1:])
        self.assertEqual(ends, {(), (0,), (1,)})

    def test_examples(self):
        self.gives(Played((0, 1, 0), ((1, 1), (0, 1))), play_plan, SMALL, PLAN, (1, 0, -2))
        self.gives(Played((0, 0, 0, 0), ((0, 1),) * 5), play_plan, numbers=[0, 0, 0], plan=PLAN, mould=SMALL)
        self.gives(Played((0, 0, 0, 1), ((0, 1), (0, 1), (0, 1), (5, 1), (0, 1))), play_plan, SMALL, (
            "ask", COLUMN, ("if", 0, ("ask", ROW, ("if", 3, END, END)), END)), (0, 5, 0))
        self.gives(Played((), ()), play_plan, SMALL, END, (1, 2, 3))
        self.gives(Played((0,), ((0, 1), (0, 1))), play_plan, Mould(2, 2, []), asks_in_a_row(1, END, ROW), [])

    def test_errors(self):
        wrong = [(thing, BadNumbers(0)) for thing in [*not_sequences(), [], ()]]
        wrong += [([0, thing, None], BadNumbers(1)) for thing in NO_NUMBERS]
        wrong += [([0, 0], BadNumbers(2)), ((0,) * 4, BadNumbers(3))]
        self.refuses_in_order(play_plan, (SMALL, PLAN, (0, 0, 0)), [(1, WRONG_PLANS), (2, wrong)])


class PlanBookTest(Case):
    """Point 7.9: plan_book and zero_book."""

    def test_the_book_of_each_branch(self):
        for mould, plan in PLANS:
            for path, book in branches(plan):
                self.gives(book, plan_book, mould, in_lists(plan), path)
                self.gives(book, plan_book, path=list(path), plan=plan, mould=mould)
            right = gone(mould, plan, (0,) * mould.letters_many).path
            self.gives(dict(branches(plan))[right], zero_book, mould, plan)

    def test_examples(self):
        self.assertEqual([path for path, book in branches(PLAN)], PATHS)
        for path, book in zip(PATHS, ((COLUMN, ROW), (COLUMN, ROW), (COLUMN,), (COLUMN, ROW))):
            self.gives(book, plan_book, SMALL, PLAN, path)
        self.gives((COLUMN, ROW), zero_book, plan=PLAN, mould=SMALL)
        self.gives((), plan_book, SMALL, END, [])
        self.gives((), zero_book, SMALL, END)
        self.gives((COLUMN,) * 8, zero_book, SMALL, in_lists(asks_in_a_row(8)))

    def test_no_branches(self):
        wrong = [(thing, BadPath()) for thing in [*not_sequences(), (), [0], (0, 0), (0, 1), (0, 0, 0), [1, 1, 0]]]
        wrong += [((0, 1, thing), BadPath()) for thing in [*not_wholes(), -1, 2]]
        wrong += [((False, 1, 0), BadPath()), ((0, True, 0), BadPath()), ((0, 1, 0, 0), BadPath())]
        self.refuses_in_order(plan_book, (SMALL, PLAN, (0, 1, 0)), [(1, WRONG_PLANS), (2, wrong)])

    def test_wrong_plans(self):
        self.refuses_in_order(zero_book, (SMALL, PLAN), [(1, WRONG_PLANS)])
