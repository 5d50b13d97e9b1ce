import itertools
import random

from tests.helper import Case, lots, not_sequences, not_wholes, wrong_books
from tests.test_edits import BOOK, COLUMN, NO_CELLS, POOL, SMALL, in_lists, some_pools, wrong_pools
from tests.test_lost import LONG, THIRTEEN
from thinslopes.asks import answers_many
from thinslopes.edits import edited
from thinslopes.errors import BadAsk, BadGoal, TooMany
from thinslopes.lost import lost_told
from thinslopes.mends import check_goal, find_mends, find_spoilers, goal_met
from thinslopes.moulds import Mould
from thinslopes.reading import read_letters
from thinslopes.taking import taken_wholly
from thinslopes.told import told_letters

# The mould, the book and the pool of point 10.12.
LINE = Mould(1, 3, [(0, 0), (0, 1), (0, 2)], [0, 1, 0])
LINE_BOOK = (("column", (1, 1, 1)),)
LINE_POOL = (("drop", (0, 0)), ("drop", (0, 2)), ("same", (0, 0), (0, 1)), ("ask", ("column", (1, 0, 0))))


def wrong_goals():
    """Couples of a thing that is no goal of SMALL and the error that tells why."""
    kinds = [*not_sequences(), (), [], ("alls",), ("All",), (b"all",), (None,), (["all"],), ("all", (0, 0)), ("told",),
             ("told", (0, 0), 0), ("read", 0), ("taken", None), ("lost", (0, 0)), ("lost",), ("lost", (0, 0), 1, 1)]
    found = [(thing, BadGoal("kind")) for thing in kinds]
    found += [(("told", cell), BadGoal("cell")) for cell in NO_CELLS]
    found += [(["lost", cell, None], BadGoal("cell")) for cell in NO_CELLS]
    return found + [(("lost", (0, 2), count), BadGoal("lost")) for count in [*not_wholes(), -1, 3]]


def meets(mould, book, goal):
    """Point 10.4, by the functions that its words name."""
    word = goal[0]
    if word == "all":
        return len(told_letters(mould, book)) == mould.letters_many
    if word == "read":
        return len(read_letters(mould, book)) == mould.letters_many
    if word == "taken":
        return taken_wholly(mould, book).missing == ()
    if goal[1] not in mould:
        return False
    letter = mould.letter_at(*goal[1])
    return letter in told_letters(mould, book) if word == "told" else lost_told(mould, book, letter, goal[2]) is None


def goals_of(mould):
    cells = list(itertools.product(range(mould.height), range(mould.width)))
    return [("all",), ("read",), ("taken",), *[("told", cell) for cell in cells],
            *[("lost", cell, count) for cell in cells for count in range(3)]]


def all_answers(mould, book, pool):
    return answers_many(mould, list(book) + [edit[1] for edit in pool if edit[0] == "ask"])


def fitting_goals(chance, mould, book, pool, many):
    """Some goals, "lost" only where the answers are few enough."""
    goals = chance.sample(goals_of(mould), min(many, len(goals_of(mould))))
    return [goal for goal in goals if goal[0] != "lost" or all_answers(mould, book, pool) <= 12]


def first_lots(mould, book, pool, goal, met):
    """All lots behind which the goal is met, or is not, and without a part of which that can be said."""
    found = []
    for lot in lots(range(len(pool))):
        if meets(*edited(mould, book, [pool[at] for at in lot]), goal) is met:
            if not any(set(other) < set(lot) for other in found):
                found.append(lot)
    return tuple(found)


class CheckGoalTest(Case):
    """Point 10.4: check_goal."""

    def test_goals_come_back_in_tuples(self):
        for goal in goals_of(SMALL):
            self.gives(goal, check_goal, SMALL, goal)
            self.gives(goal, check_goal, SMALL, in_lists(goal))
        self.gives(("lost", (1, 1), 2), check_goal, goal=["lost", (1, 1), 2], mould=SMALL)

    def test_errors(self):
        self.refuses_in_order(check_goal, (SMALL, ("all",)), [(1, wrong_goals())])

    def test_later_changes_have_no_effect(self):
        goal = ["told", [0, 1]]
        checked = check_goal(SMALL, goal)
        goal[1][0] = 1
        self.same(checked, ("told", (0, 1)))


class GoalMetTest(Case):
    """Point 10.4: goal_met."""

    def test_each_goal(self):
        seen = set()
        for mould, book, _ in some_pools(351, 60):
            for goal in goals_of(mould):
                if goal[0] != "lost" or answers_many(mould, book) <= 12:
                    right = meets(mould, book, goal)
                    self.gives(right, goal_met, mould, list(book), in_lists(goal))
                    seen.add((goal[0], goal[2:], right))
        self.assertEqual(len(seen), 14)

    def test_edges(self):
        empty = Mould(2, 2, [])
        for goal in (("all",), ("read",), ("taken",)):
            self.gives(True, goal_met, empty, (), goal)
        self.gives(False, goal_met, empty, (), ("told", (0, 0)))
        self.gives(False, goal_met, goal=("lost", (0, 0), 0), book=[("row", (1, 1))], mould=empty)
        self.gives(True, goal_met, LINE, [("row", (1,))], ("lost", (0, 2), 1))
        self.gives(False, goal_met, LINE, [("row", (1,))], ("lost", (0, 2), 2))

    def test_twelve_and_thirteen_answers(self):
        self.gives(True, goal_met, LONG, THIRTEEN[:2], ("lost", (0, 3), 1))
        for cell in ((0, 0), (0, 5)):
            self.refuses(TooMany(12), goal_met, LONG, THIRTEEN, ("lost", cell, 0))
        self.refuses(TooMany(12), goal_met, Mould(1, 6, []), THIRTEEN, ["lost", (0, 0), 0])
        for goal in (("told", (0, 0)), ("all",), ("read",), ("taken",)):
            self.gives(True, goal_met, LONG, THIRTEEN, goal)

    def test_errors(self):
        self.refuses_in_order(goal_met, (SMALL, BOOK, ("all",)), [(1, wrong_books(SMALL)), (2, wrong_goals())])
        self.refuses(BadGoal("lost"), goal_met, LONG, THIRTEEN, ("lost", (0, 0), 3))


class FindTest(Case):
    """Points 10.5, 10.6 and 10.7."""

    def test_against_all_lots(self):
        chance = random.Random(352)
        shapes = set()
        for mould, book, pool in some_pools(353, 60):
            for goal in fitting_goals(chance, mould, book, pool, 4):
                mends = first_lots(mould, book, pool, goal, True)
                spoilers = first_lots(mould, book, pool, goal, False)
                self.gives(mends, find_mends, mould, list(book), in_lists(pool), in_lists(goal))
                self.gives(spoilers, find_spoilers, mould, book, pool, goal)
                self.assertNotEqual(mends == ((),), spoilers == ((),))
                shapes.update(("mends", len(lot)) for lot in mends)
                shapes.update(("spoilers", len(lot)) for lot in spoilers)
                shapes.update({("mends", mends == ()), ("spoilers", spoilers == ())})
        self.assertGreaterEqual(shapes, {(name, many) for name in ("mends", "spoilers") for many in range(3)})
        self.assertGreaterEqual(shapes, {(name, none) for name in ("mends", "spoilers") for none in (True, False)})

    def test_pools_without_edits(self):
        self.gives((), find_mends, LINE, LINE_BOOK, [], ("all",))
        self.gives(((),), find_spoilers, LINE, LINE_BOOK, [], ("all",))
        self.gives(((),), find_mends, LINE, [("row", [1])], (), ("all",))
        self.gives((), find_spoilers, goal=("all",), pool=(), book=[("row", [1])], mould=LINE)

    def test_lots_of_several_edits(self):
        free = Mould(1, 4, [(0, at) for at in range(4)])
        drops = [("drop", (0, at)) for at in range(3)]
        self.gives(((0, 1, 2),), find_mends, free, [("column", (1, 1, 1, 1))], drops, ("all",))
        unasks = [("unask", at) for at in range(4)]
        rows = [("row", (1,)), ("row", (2,)), ("row", (3,)), ("column", (0, 0, 0, 1))]
        self.gives(((0, 1, 2),), find_spoilers, free, rows, unasks, ("all",))
        self.gives(((0, 1, 2, 3),), find_spoilers, free, rows, unasks, ("told", (0, 3)))
        self.gives(((0, 1), (0, 2), (1, 2)), find_spoilers, free, rows[:3], unasks[:3], ("lost", (0, 3), 1))

    def test_dropping_one_of_several_places_of_a_letter_may_spoil_or_meet(self):
        """Point 10.8 (e)."""
        # Two letters: a alone in row 0 is read; without that place they stand together only.
        spoiled = Mould(2, 2, [(0, 0), (1, 0), (1, 1)], [0, 0, 1])
        book = [("column", (1, 1))]
        self.gives(((0,),), find_spoilers, spoiled, book, [("drop", (0, 0))], ("all",))
        met = Mould(1, 2, [(0, 0), (0, 1)], [0, 0])
        self.gives(((0,),), find_mends, met, [("column", (1, -1))], [("drop", (0, 0))], ("told", (0, 1)))
        # So one drop meets what another one behind it spoils again.
        back = find_spoilers(met, [("column", (1, -1))], [("drop", (0, 0)), ("drop", (0, 1))], ("told", (0, 1)))
        self.same(back, ((),))

    def test_what_edits_can_do(self):
        """Point 10.8 (a) to (d)."""
        chance = random.Random(354)
        kinds = set()
        for mould, book, pool in some_pools(355, 80):
            for goal in fitting_goals(chance, mould, book, pool, 4):
                own = goal[1:2]
                for lot in find_spoilers(mould, book, pool, goal):
                    for edit in [pool[at] for at in lot]:
                        kinds.add(("spoils", edit[0]))
                        self.assertNotIn(edit[0], ("ask", "same"))
                        if edit[0] == "drop" and edit[1] not in own:
                            letter = mould.letter_at(*edit[1])
                            self.assertGreater(len(mould.cells_of(letter)), 1)
                for lot in find_mends(mould, book, pool, goal):
                    for edit in [pool[at] for at in lot]:
                        kinds.add(("mends", edit[0]))
                        self.assertNotEqual(edit[0], "unask")
                        self.assertTrue(edit[0] != "add" or edit[1] in own)
        self.assertGreaterEqual(kinds, {("spoils", "drop"), ("spoils", "unask"), ("spoils", "add"), ("mends", "drop"),
                                        ("mends", "same"), ("mends", "ask"), ("mends", "add")})

    def test_errors(self):
        wrong = [(1, wrong_books(SMALL)), (2, wrong_pools()), (3, wrong_goals())]
        for call in (find_mends, find_spoilers):
            self.refuses_in_order(call, (SMALL, BOOK, POOL, ("all",)), wrong)

    def test_twelve_and_thirteen_answers(self):
        column, row = ("column", (1,) * 6), ("row", (1,))
        for call in (find_mends, find_spoilers):
            # Asks of the pool are counted, and asks that it takes out are, too.
            for book, pool in ((THIRTEEN, [("unask", 0)]), ([row, row], [("ask", column)]), ([row, column], [
                    ("unask", 0), ("ask", row), ("drop", (0, 0))])):
                self.refuses(TooMany(12), call, LONG, book, pool, ("lost", (0, 0), 0))
                self.refuses(BadGoal("cell"), call, LONG, book, pool, ("lost", (1, 0), 0))
                call(LONG, book, pool, ("told", (0, 0)))
            empty = Mould(1, 6, [])
            self.refuses(TooMany(12), call, empty, [row], [("ask", row), ("ask", column)], ("lost", (0, 0), 0))
            self.refuses(BadAsk(0, "many"), call, LONG, [row] * 9, [], ("lost", (0, 0), 0))
        self.gives(((0,),), find_mends, LONG, [row], [("ask", row)], ("lost", (0, 0), 1))
        self.gives(((0,),), find_spoilers, LONG, [row, row], [("unask", 1)], ("lost", (0, 0), 1))

    def test_the_example_of_point_10_12(self):
        self.gives(((2,), (3,), (0, 1)), find_mends, LINE, LINE_BOOK, LINE_POOL, ("told", (0, 1)))
        self.gives(False, goal_met, *edited(LINE, LINE_BOOK, [LINE_POOL[0]]), ("told", (0, 1)))
        for lot in ((2,), (3,), (0, 1)):
            mould, book = edited(LINE, LINE_BOOK, [LINE_POOL[at] for at in lot])
            self.gives(True, goal_met, mould, book, ("told", (0, 1)))
        self.gives(((),), find_spoilers, LINE, LINE_BOOK, LINE_POOL, ("told", (0, 1)))

    def test_pools_of_six_edits_on_a_table_of_6_by_6(self):
        chance = random.Random(356)
        cells = [cell for cell in itertools.product(range(6), repeat=2) if chance.random() < 0.7]
        mould = Mould(6, 6, cells)

        def ask():
            return (chance.choice(("column", "row")), tuple(chance.randint(-10 ** 9, 10 ** 9) for _ in range(6)))

        book = [ask() for _ in range(5)]
        pool = [("drop", cells[0]), ("drop", cells[7]), *[("ask", ask()) for _ in range(3)], ("same", *cells[2:4])]
        for goal in (("all",), ("read",), ("taken",), ("told", cells[4])):
            mends = find_mends(mould, book, pool, goal)
            for lot in mends:
                self.assertTrue(goal_met(*edited(mould, book, [pool[at] for at in lot]), goal))
            self.assertIs(find_spoilers(mould, book, pool, goal) == ((),), mends != ((),))
