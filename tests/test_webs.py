import itertools

from tests.helper import Case, all_webs, not_sequences, not_wholes
from thinslopes.errors import BadOrder, BadPoint, BadTie, BadWeb
from thinslopes.moulds import Mould
from thinslopes.webs import Web

PATH = Web(4, [(0, 0), (0, 1), (1, 3)])
NO_TIES = [
    (1, 0), (3, 1), (0, 4), (4, 4), (-1, 0), (-1, -1), (0,), (), (0, 1, 2), (False, 1), (0, True), (0, 1.0), ("0", 1),
    (None, None), "01", b"01", 0, None, True, {0: 0, 1: 1}, range(2), object(),
]


class WebTest(Case):
    """Point 1.4."""

    def test_attributes_are_made_of_tuples(self):
        for web in (PATH, Web(4, ([0, 0], [0, 1], [1, 3])), Web(ties=[[0, 0], (0, 1), (1, 3)], points=4)):
            self.same((web.points, web.ties), (4, ((0, 0), (0, 1), (1, 3))))

    def test_from_1_to_6_points(self):
        for points in range(1, 7):
            ties = tuple(itertools.combinations_with_replacement(range(points), 2))
            self.same(vars(Web(points, ties)), {"points": points, "ties": ties})
            self.same(vars(Web(points, [])), {"points": points, "ties": ()})

    def test_wrong_points(self):
        for thing in [*not_wholes(), 0, -1, 7]:
            self.refuses(BadWeb("points", 0), Web, thing, [])
            self.refuses(BadWeb("points", 0), Web, thing, None)

    def test_ties_that_are_no_sequence(self):
        for thing in not_sequences():
            self.refuses(BadWeb("tie", 0), Web, 4, thing)

    def test_a_thing_that_is_no_tie(self):
        for thing in NO_TIES:
            self.refuses(BadWeb("tie", 0), Web, 4, [thing])
            self.refuses(BadWeb("tie", 2), Web, 4, ((0, 0), [0, 1], thing, (1, 1)))
            self.refuses(BadWeb("tie", 1), Web, 4, [(0, 2), thing, (0, 0)])

    def test_ties_that_do_not_ascend(self):
        self.refuses(BadWeb("tie", 1), Web, 4, [(0, 1), (0, 1)])
        self.refuses(BadWeb("tie", 1), Web, 4, [(0, 1), [0, 1]])
        self.refuses(BadWeb("tie", 2), Web, 4, [(0, 1), (1, 2), (0, 3), None])

    def test_length_and_iteration(self):
        for web in all_webs(3):
            self.same((len(web), list(web), list(web)), (len(web.ties), list(web.ties), list(web.ties)))

    def test_equality(self):
        webs = [*all_webs(1), *all_webs(2), *[Web(points, []) for points in range(3, 7)], Web(3, [(0, 1)])]
        for one, other in itertools.product(webs, repeat=2):
            alike = (one.points, one.ties) == (other.points, other.ties)
            self.assertIs(one == other, alike)
            self.assertIs(one != other, not alike)
        for web in webs:
            self.assertIs(web == Web(web.points, list(web.ties)), True)

    def test_a_web_is_unlike_other_things(self):
        class Like:
            points, ties = 4, PATH.ties

        for thing in (None, 4, "", PATH.ties, PATH.as_mould(), Like()):
            self.assertIs(PATH == thing, False)
            self.assertIs(PATH != thing, True)

    def test_as_mould(self):
        self.gives(Mould(4, 4, [(0, 0), (0, 1), (1, 0), (1, 3), (3, 1)], [0, 1, 1, 2, 2]), PATH.as_mould)
        for web in [*all_webs(3), Web(6, list(itertools.combinations_with_replacement(range(6), 2)))]:
            mould = web.as_mould()
            self.same((mould.height, mould.width, mould.letters_many), (web.points, web.points, len(web)))
            for number, (one, other) in enumerate(web.ties):
                self.same(mould.cells_of(number), tuple(sorted({(one, other), (other, one)})))

    def test_tie_number(self):
        for web in all_webs(3):
            for one, other in itertools.product(range(3), repeat=2):
                tie = (min(one, other), max(one, other))
                number = web.ties.index(tie) if tie in web.ties else None
                self.gives(number, web.tie_number, one, other)
                self.gives(number, web.tie_number, other=other, one=one)

    def test_there_is_no_tie_to_what_is_no_point(self):
        for thing in [*not_wholes(), -1, 4]:
            self.assertIsNone(PATH.tie_number(0, thing))
            self.assertIsNone(PATH.tie_number(thing, 0))

    def test_friends_of(self):
        self.gives((0, 1), PATH.friends_of, 0)
        self.gives((0, 3), PATH.friends_of, point=1)
        self.gives((), PATH.friends_of, 2)
        for web in all_webs(3):
            for point in range(3):
                friends = {other for tie in web.ties if point in tie for other in tie if other != point}
                if (point, point) in web.ties:
                    friends.add(point)
                self.gives(tuple(sorted(friends)), web.friends_of, point)

    def test_friends_of_no_point(self):
        for thing in [*not_wholes(), -1, 4, [0]]:
            self.refuses(BadPoint(thing), PATH.friends_of, thing)

    def test_with_tie(self):
        for web in all_webs(3):
            for tie in itertools.product(range(3), repeat=2):
                if tie[0] > tie[1] or tie in web.ties:
                    self.refuses(BadTie(tie), web.with_tie, tie)
                    self.refuses(BadTie(tie), web.with_tie, list(tie))
                else:
                    self.gives(Web(3, sorted([*web.ties, tie])), web.with_tie, tie)
                    self.gives(Web(3, sorted([*web.ties, tie])), web.with_tie, tie=list(tie))

    def test_without_tie(self):
        for web in all_webs(3):
            for tie in itertools.product(range(3), repeat=2):
                if tie in web.ties:
                    left = [other for other in web.ties if other != tie]
                    self.gives(Web(3, left), web.without_tie, tie)
                    self.gives(Web(3, left), web.without_tie, tie=list(tie))
                else:
                    self.refuses(BadTie(tie), web.without_tie, tie)
                    self.refuses(BadTie(tie), web.without_tie, list(tie))

    def test_no_ties_of_such_points(self):
        full = Web(4, list(itertools.combinations_with_replacement(range(4), 2)))
        for thing in NO_TIES:
            for web in (PATH, full, Web(4, [])):
                self.refuses(BadTie(thing), web.with_tie, thing)
                self.refuses(BadTie(thing), web.without_tie, thing)

    def test_renamed_web(self):
        self.gives(Web(4, [(0, 2), (2, 3), (3, 3)]), PATH.renamed_web, [3, 2, 1, 0])
        for web in all_webs(3):
            for order in itertools.permutations(range(3)):
                ties = sorted(tuple(sorted((order[one], order[other]))) for one, other in web.ties)
                self.gives(Web(3, ties), web.renamed_web, order)
                self.gives(Web(3, ties), web.renamed_web, order=list(order))

    def test_renamed_web_refuses_what_is_no_order(self):
        for thing in [*not_sequences(), [], [0, 1, 2], [0, 1, 2, 2], [1, 2, 3, 4], [0, 1, 2, 3, 4], (0, 1, 2, True)]:
            self.refuses(BadOrder("points"), PATH.renamed_web, thing)

    def test_changes_return_new_webs(self):
        for web in (PATH.with_tie((2, 2)).without_tie((2, 2)), PATH.renamed_web((0, 1, 2, 3))):
            self.assertIsNot(web, PATH)
            self.same(web, PATH)

    def test_later_changes_of_lists_have_no_effect(self):
        ties = [[0, 0], [0, 1], [1, 3]]
        web = Web(4, ties)
        ties[1][1] = 2
        ties.append([2, 2])
        self.same(web, PATH)
        for call in (PATH.with_tie, PATH.without_tie, PATH.friends_of):
            wrong = [3, 0]
            with self.assertRaises((BadTie, BadPoint)) as caught:
                call(wrong)
            wrong.append(9)
            self.assertEqual([tuple(value) for value in vars(caught.exception).values()], [(3, 0)])
