import itertools
import random
from math import gcd

from tests.helper import (
    Case, all_webs, lots, not_sequences, not_wholes, random_book, random_web, rank_by_fractions, wrong_books,
)
from thinslopes.asks import book_answers, power_asks, span_rows
from thinslopes.errors import BadAsk, BadCount, BadPoints
from thinslopes.floors import (
    SideLot, WebCore, least_floor, least_powers, side_floor, side_hidden, web_core, web_core_fault,
)
from thinslopes.groupings import book_of
from thinslopes.sidegroups import side_told
from thinslopes.told import Hidden, told_letters
from thinslopes.webs import Web

ALL_TIES = Web(6, list(itertools.combinations_with_replacement(range(6), 2)))
NO_TIES = Web(4, [])
# A ring of four points with all diagonals.
RING = Web(4, [(0, 0), (0, 1), (0, 3), (1, 1), (1, 2), (2, 2), (2, 3), (3, 3)])
WRONG_COUNTS = [(thing, BadCount(thing)) for thing in [*not_wholes(), -1, 7]]


def some_webs():
    chance = random.Random(171)
    found = all_webs(1) + all_webs(2) + all_webs(3)[::3]
    for points, ties in ((4, 0.4), (4, 0.8), (5, 0.3), (5, 0.7), (6, 0.3), (6, 0.5), (6, 0.8)):
        found += [random_web(chance, points, ties) for _ in range(3)]
    for points in range(3, 7):
        path = [(at, at + 1) for at in range(points - 1)]
        ring = sorted([*path, (0, points - 1)])
        star = [(0, at) for at in range(1, points)]
        every = list(itertools.combinations(range(points), 2))
        for ties in (path, ring, star, every):
            found.append(Web(points, ties))
            found.append(Web(points, sorted([*ties, *[(at, at) for at in range(points)]])))
    return [*found, NO_TIES, ALL_TIES]


WEBS = some_webs()


def within(web, points):
    return [number for number, tie in enumerate(web.ties) if set(tie) <= set(points)]


def floor_of(count, many):
    """The most independent answers that so many asks have within so many points, ask by ask."""
    return sum(many - ask for ask in range(min(count, many)))


def struck_ties(web, strikes):
    return [number for number, tie in enumerate(web.ties) if not set(tie) & set(strikes)]


def able(web, count, strikes):
    left = [web.ties[number] for number in struck_ties(web, strikes)]
    return [point for point in range(web.points)
            if point not in strikes and sum(point in tie for tie in left) <= count]


class SideFloorTest(Case):
    """Point 7.3."""

    def expected(self, web, count):
        for points in lots(range(web.points)):
            if len(within(web, points)) > floor_of(count, len(points)):
                return SideLot(points, len(within(web, points)), floor_of(count, len(points)))
        return None

    def test_the_first_lot_above_its_floor(self):
        for web in WEBS:
            for count in range(7):
                self.gives(self.expected(web, count), side_floor, web, count)

    def test_the_least_floor(self):
        for web in WEBS:
            least = min(count for count in range(7) if self.expected(web, count) is None)
            self.gives(least, least_floor, web)
            self.assertLessEqual(least, web.points)
            self.assertIs(least == 0, len(web) == 0)

    def test_just_as_many_ties_as_the_floor_are_let(self):
        full = list(itertools.combinations_with_replacement(range(4), 2))
        for count, gone in ((1, 6), (2, 3), (3, 1)):
            # All ties of four points are 10; the floors are 4, 7 and 9.
            self.assertEqual(floor_of(count, 4), 10 - gone)
            just = [web for web in (Web(4, lot) for lot in itertools.combinations(full, 10 - gone))
                    if side_floor(web, count) is None]
            self.assertTrue(just)
            for web in just[:5]:
                more = web.with_tie([tie for tie in full if tie not in web.ties][0])
                self.assertIsNotNone(side_floor(more, count))

    def test_examples(self):
        self.gives(SideLot((0,), 1, 0), side_floor, RING, 0)
        self.gives(SideLot((0, 1), 3, 2), side_floor, count=1, web=RING)
        self.gives(SideLot((0, 1, 2, 3), 8, 7), side_floor, RING, 2)
        self.gives(None, side_floor, RING, 3)
        self.gives(SideLot((0, 1, 2, 3, 4, 5), 21, 20), side_floor, ALL_TIES, 5)
        self.gives(None, side_floor, ALL_TIES, 6)
        self.gives(6, least_floor, web=ALL_TIES)
        for count in range(7):
            self.gives(None, side_floor, NO_TIES, count)
        self.gives(0, least_floor, NO_TIES)
        self.gives(SideLot((0, 1), 1, 0), side_floor, Web(3, [(0, 1)]), 0)
        self.gives(None, side_floor, Web(1, [(0, 0)]), 1)

    def test_a_lot_above_its_floor_bars_all_books(self):
        chance = random.Random(172)
        checked = 0
        for web in WEBS:
            mould = web.as_mould()
            for count in range(least_floor(web)):
                lot = side_floor(web, count)
                for greatest in (1, 9, 10 ** 9):
                    book = random_book(chance, mould, 0)
                    for _ in range(chance.randint(0, count)):
                        numbers = tuple(chance.randint(-greatest, greatest) for _ in range(web.points))
                        book += ((chance.choice(("column", "row")), numbers),)
                    self.assertIsNotNone(side_hidden(web, lot.points, book))
                    checked += 1
        self.assertGreater(checked, 100)

    def test_wrong_counts(self):
        for web in (RING, NO_TIES):
            self.refuses_in_order(side_floor, (web, 2), [(1, WRONG_COUNTS)])


class SideHiddenTest(Case):
    """Point 7.4."""

    def test_hidden_fillings(self):
        chance = random.Random(173)
        kinds = set()
        for web in WEBS:
            for points in chance.sample(lots(range(web.points))[1:], min(4, 2 ** web.points - 1)):
                book = random_book(chance, web.as_mould(), 4)
                inside = within(web, points)
                rows = [[row[tie] for tie in inside] for row in span_rows(web.as_mould(), book)]
                rank = rank_by_fractions(rows)
                hidden = self.taken(side_hidden, web, chance.choice((list, tuple))(points), book)
                kinds.add(hidden is None)
                self.assertIs(hidden is None, rank == len(inside))
                if hidden is not None:
                    self.assertIsInstance(hidden, Hidden)
                    self.assertEqual([type(number) for number in hidden.numbers], [int] * len(web))
                    self.assertEqual({tie for tie, number in enumerate(hidden.numbers) if number} - set(inside), set())
                    self.assertEqual(gcd(*hidden.numbers), 1)
                    self.assertLessEqual(set(book_answers(web.as_mould(), book, hidden.numbers)), {(0, 1)})
        self.assertEqual(kinds, {True, False})

    def test_edges(self):
        self.gives(None, side_hidden, NO_TIES, (0, 1, 2, 3), [])
        self.gives(None, side_hidden, Web(3, [(0, 1)]), (0, 2), [])
        self.gives(Hidden((1,)), side_hidden, Web(3, [(0, 1)]), [0, 1], [])
        self.gives(None, side_hidden, book=[("row", [1, 0, 0])], points=[0, 1], web=Web(3, [(0, 1)]))
        self.gives(Hidden((1,)), side_hidden, Web(3, [(0, 1)]), (0, 1), [("row", [0, 0, 1])])

    def test_errors(self):
        points = [(thing, BadPoints(0)) for thing in [*not_sequences(), (), []]]
        points += [((thing,), BadPoints(0)) for thing in [*not_wholes(), -1, 4]]
        points += [([0, thing], BadPoints(1)) for thing in [*not_wholes(), 0, -1, 4]]
        points += [((1, 3, 2), BadPoints(2)), ([0, 1, 1, 4], BadPoints(2)), ([2, 1, None], BadPoints(1))]
        wrong = [(1, points), (2, wrong_books(RING.as_mould()))]
        self.refuses_in_order(side_hidden, (RING, (0, 1), ()), wrong)
        self.refuses(BadAsk(0, "length"), side_hidden, RING, (0,), [("column", (1, 1, 1))])


class SingleAskTest(Case):
    """Point 7.5."""

    def test_single_asks_without_a_0_tell_what_one_group_tells(self):
        chance = random.Random(174)
        for web in WEBS:
            mould = web.as_mould()
            group = told_letters(mould, book_of((0,) * web.points))
            for _ in range(3):
                numbers = tuple(chance.choice((-1, 1)) * chance.randint(1, 9) for _ in range(web.points))
                ask = (chance.choice(("column", "row")), numbers)
                self.assertEqual(told_letters(mould, [ask]), group)
                filling = [chance.randint(-5, 5) for _ in web.ties]
                turned = [filling[tie] * numbers[one] * numbers[other] for tie, (one, other) in enumerate(web.ties)]
                sums = book_answers(mould, book_of((0,) * web.points), turned)
                answers = book_answers(mould, [ask], filling)
                self.assertEqual([answer[0] * at for answer, at in zip(answers, numbers)], [top for top, _ in sums])

    def test_a_walk_bars_every_single_ask(self):
        chance = random.Random(175)
        barred = 0
        for web in WEBS:
            if side_told(web, (0,) * web.points) is not None:
                for _ in range(3):
                    numbers = tuple(chance.randint(-2, 2) for _ in range(web.points))
                    self.assertNotEqual(len(told_letters(web.as_mould(), [("column", numbers)])), len(web))
                barred += 1
        self.assertGreater(barred, 20)


class WebCoreTest(Case):
    """Point 7.6."""

    def expected(self, web, count):
        strikes = []
        while able(web, count, strikes):
            strikes.append(min(able(web, count, strikes)))
        return WebCore(tuple(strikes), tuple(struck_ties(web, strikes)))

    def test_the_least_point_is_struck_first(self):
        for web in WEBS:
            for count in range(7):
                self.gives(self.expected(web, count), web_core, web, count)

    def test_the_core_is_the_same_in_all_orders(self):
        for web in [web for web in WEBS if web.points <= 4]:
            for count in range(4):
                core = web_core(web, count)
                ends = set()
                for order in itertools.permutations(range(web.points)):
                    strikes = []
                    while [point for point in order if point in able(web, count, strikes)]:
                        strikes.append([point for point in order if point in able(web, count, strikes)][0])
                    ends.add(tuple(struck_ties(web, strikes)))
                    self.assertIsNone(web_core_fault(web, count, strikes))
                self.assertEqual(ends, {core.ties})

    def test_asks_of_powers_tell_all_outside_the_core(self):
        for web in WEBS:
            for count in range(7):
                core = web_core(web, count)
                told = told_letters(web.as_mould(), power_asks("column", web.points, count))
                self.assertLessEqual(set(range(len(web))) - set(core.ties), set(told))
                if core.ties == ():
                    self.assertEqual(len(told), len(web))
                    self.assertIsNone(side_floor(web, count))

    def test_least_powers(self):
        for web in WEBS:
            least = min(count for count in range(7) if not self.expected(web, count).ties)
            self.gives(least, least_powers, web)
            self.assertIs(least == 0, len(web) == 0)
            self.assertLessEqual(least_floor(web), least)

    def test_examples(self):
        self.gives(WebCore((0, 1, 2, 3), ()), web_core, NO_TIES, 0)
        self.gives(WebCore((2,), (0,)), web_core, Web(3, [(0, 1)]), 0)
        self.gives(WebCore((), tuple(range(8))), web_core, RING, 2)
        self.gives(WebCore((0, 1, 2, 3), ()), web_core, count=3, web=RING)
        # The diagonal of 0 counts once.
        self.gives(WebCore((1, 0), ()), web_core, Web(2, [(0, 0), (0, 1)]), 1)
        self.gives(WebCore((0, 1), ()), web_core, Web(2, [(0, 0), (0, 1)]), 2)
        self.gives(6, least_powers, ALL_TIES)
        self.gives(0, least_powers, web=NO_TIES)

    def test_wrong_counts(self):
        for web in (RING, NO_TIES):
            self.refuses_in_order(web_core, (web, 2), [(1, WRONG_COUNTS)])


class WebCoreFaultTest(Case):
    """Point 7.6: web_core_fault."""

    def word(self, web, count, strikes):
        for at, point in enumerate(strikes):
            if point not in able(web, count, strikes[:at]):
                return "ties"
        return "more" if able(web, count, strikes) else None

    def test_all_rows_of_points(self):
        words = set()
        for web in [web for web in WEBS if web.points <= 4][::2]:
            for count in range(4):
                for many in range(web.points + 1):
                    for strikes in itertools.permutations(range(web.points), many):
                        word = self.word(web, count, strikes)
                        self.assertEqual(web_core_fault(web, count, list(strikes)), word)
                        words.add(word)
        self.assertEqual(words, {None, "ties", "more"})

    def test_points(self):
        for thing in [*not_sequences(), (0, 0), [4], (-1,), (0, 1, 0), [True], (0, None), ("0",), ((0,),)]:
            self.gives("point", web_core_fault, RING, 3, thing)

    def test_each_word(self):
        self.gives(None, web_core_fault, RING, 3, (3, 1, 0, 2))
        self.gives("ties", web_core_fault, RING, 2, [0])
        self.gives("more", web_core_fault, strikes=(3, 1), count=3, web=RING)
        self.gives(None, web_core_fault, RING, 2, ())
        self.gives("more", web_core_fault, NO_TIES, 0, [2, 1, 0])
        self.gives(None, web_core_fault, ALL_TIES, 6, (5, 4, 3, 2, 1, 0))

    def test_two_words_at_once(self):
        # Point 0 cannot be struck, and the point behind it is wrong.
        self.gives("point", web_core_fault, RING, 2, [0, 9])
        path = Web(3, [(0, 1), (0, 2), (1, 1)])
        self.gives("ties", web_core_fault, path, 1, (0,))

    def test_wrong_counts(self):
        self.refuses_in_order(web_core_fault, (RING, 2, None), [(1, WRONG_COUNTS)])
