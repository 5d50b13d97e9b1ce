import importlib
import inspect
import unittest

FUNCTIONS = {
    "ratios": [
        "is_sequence(thing)", "is_whole(thing, low=None, high=None)", "common_divisor(one, other)",
        "make_ratio(top, bottom=1)", "is_ratio(thing)", "as_ratio(thing)", "ratio_plus(one, other)",
        "ratio_minus(one, other)", "ratio_times(one, other)", "ratio_over(one, other)", "ratio_negative(one)",
        "ratio_compare(one, other)",
    ],
    "moulds": [
        "is_couple(thing, height, width)", "is_order(thing, many)", "check_letter(mould, letter)",
        "check_numbers(mould, numbers)",
    ],
    "webs": [],
    "groupings": [
        "check_grouping(count, grouping, gaps=False)", "groups_many(grouping)", "check_count(count)",
        "count_groupings(count)", "book_of(grouping)", "all_groupings(count)",
    ],
    "asks": [
        "check_ask(mould, ask, index=0)", "check_book(mould, book)", "answers_many(mould, book)",
        "span_rows(mould, book)", "book_answers(mould, book, numbers)", "power_asks(kind, length, many)",
    ],
    "mouldtext": ["mould_text(mould)", "read_mould(text)"],
    "booktext": ["book_text(mould, book)", "read_book(mould, text)"],
    "spans": ["rank_of(rows)", "reduced_rows(rows)", "weights_for(rows, row)", "hidden_basis(rows, width)"],
    "told": [
        "told_by(mould, book, letter)", "weights_fault(mould, book, letter, weights)",
        "hidden_fault(mould, book, letter, hidden)", "told_letters(mould, book)", "tells_all(mould, book)",
        "hidden_all(mould, book)",
    ],
    "recover": [
        "check_answers(mould, book, answers)", "recovered_from(mould, book, answers)",
        "clash_fault(mould, book, answers, clash)", "gives_book(mould, book, other)", "alike_books(mould, one, other)",
    ],
    "wholes": [
        "whole_told(mould, book, letter)", "whole_fault(mould, book, letter, whole)", "letter_bottoms(mould, book)",
    ],
    "rests": [
        "told_by_rests(mould, book, letter, modulus)", "rest_weights_fault(mould, book, letter, modulus, weights)",
        "rest_hidden_fault(mould, book, letter, modulus, hidden)", "told_moduli(mould, book, letter)",
    ],
    "groups": [
        "grouped_told(mould, grouping)", "grouped_letters(mould, grouping)", "least_groupings(mould)",
        "fewest_groups(mould)",
    ],
    "powers": [
        "fewest_columns(mould)", "power_told(mould, count, letter)", "columns_told(mould, book)",
        "dependent_lot(mould, book, many)",
    ],
    "pieces": [
        "pieces_between(web, grouping, one, two)", "all_pieces(web, grouping)", "odd_ring(web, piece)",
        "has_odd_ring(web, piece)", "two_sides(web, piece)",
    ],
    "evenwalks": ["walk_filling(web, walk)", "walk_fault(web, grouping, walk)", "walk_through(web, grouping, tie)"],
    "sidegroups": [
        "side_told(web, grouping)", "told_ties(web, grouping)", "hidden_many(web, grouping)",
        "tie_told(web, grouping, tie)", "balance_fault(web, grouping, tie, balance)",
        "balance_weights(web, grouping, balance)",
    ],
    "reading": [
        "check_letters(mould, letters)", "left_letters(mould, book, answer, known=())", "read_letters(mould, book)",
        "side_read(web, grouping)",
    ],
    "taking": [
        "taken_wholly(mould, book, known=())", "taken_fault(mould, book, steps, known=())",
        "is_stuck(mould, book, lot)", "stuck_lots(mould, book)", "fewest_known(mould, book)",
        "numbers_taken(mould, book, answers)",
    ],
    "solving": [
        "solved_by(mould, book, most)", "lot_size(mould, book)", "letter_ladder(mould, book)",
        "side_taken(web, grouping)",
    ],
    "cores": [
        "check_budget(budget)", "check_lines(mould, order)", "plain_order(mould)",
        "core_of(mould, budget, order=None)", "strikes_fault(mould, budget, strikes)",
    ],
    "powerbooks": [
        "both_book(mould, budget)", "powers_tell(mould, budget)", "struck_numbers(mould, budget, answers, order=None)",
    ],
    "blocks": [
        "block_most(budget, rows_many, columns_many)", "floor_block(mould, budget)",
        "block_fault(mould, budget, block)", "hidden_in_block(mould, block_rows, block_columns, book)",
    ],
    "bothbounds": ["both_bounds(mould)"],
    "bothgroups": [
        "groups_book(mould, row_groups, column_groups)", "unread_cell(mould, row_groups, column_groups)",
        "told_by_both(mould, row_groups, column_groups)", "both_told(mould, row_groups, column_groups)",
        "chain_fault(mould, row_groups, column_groups, chain)",
    ],
    "bothleast": ["all_gapped(count)", "fewest_read_by_both(mould)", "fewest_told_by_both(mould)"],
    "fewest": [
        "holds_way(web, way, grouping)", "fewest_by(web, way)", "fewest_three(web)",
        "fewest_fault(web, way, grouping)", "all_fewest(web, way)",
    ],
    "floors": [
        "side_floor(web, count)", "least_floor(web)", "side_hidden(web, points, book)", "web_core(web, count)",
        "web_core_fault(web, count, strikes)", "least_powers(web)",
    ],
    "sidebounds": ["side_bounds(web)"],
    "plans": [
        "check_plan(mould, plan)", "play_plan(mould, plan, numbers)", "plan_book(mould, plan, path)",
        "zero_book(mould, plan)",
    ],
    "branches": [
        "plan_branches(mould, plan)", "branch_fault(mould, plan, branch)", "plan_letters(mould, plan)",
        "plan_told(mould, plan)", "untold_fault(mould, plan, untold)", "plan_counts(mould, plan)",
        "plan_recovered(mould, plan, answers)",
    ],
    "lost": [
        "lost_told(mould, book, letter, most)", "lost_fault(mould, book, letter, lost)",
        "least_loss(mould, book, letter)", "wrong_told(mould, book, letter, most)",
        "mended_answers(mould, book, answers, most)",
    ],
    "strangers": [
        "off_cells(mould)", "answers_with(mould, book, numbers, strangers)", "seen_strangers(mould, book, most)",
        "found_strangers(mould, book, most)", "explained_by(mould, book, answers, most)",
    ],
    "polys": ["check_values(many, values)"],
    "programs": [
        "spot_numbers(program, values)", "result_numbers(program, values)", "spot_polys(program)",
        "chained_program(first, second)",
    ],
    "slopes": [
        "slope_polys(program)", "table_at(program, values)", "shown_at(program, result, entry)",
        "program_mould(program, *, shared=False)", "mould_by_steps(program)", "ways_of(program, result, entry)",
    ],
    "runs": [
        "forward_run(program, values, column)", "backward_run(program, values, row)",
        "forward_program(program, column)", "backward_program(program, row)",
    ],
    "gained": [
        "run_answers(program, values, book)", "table_by_runs(program, values, book, mould=None)",
        "told_always(program, book, result, entry)",
    ],
    "seconds": [
        "second_polys(program, result)", "second_at(program, values, result)", "program_web(program, result)",
        "web_by_steps(program, result)", "bent_run(program, values, result, column)",
        "bent_table(program, values, result, grouping)", "result_parts(program, result)",
    ],
    "edits": ["check_pool(mould, book, pool)", "edited(mould, book, edits)"],
    "mends": [
        "check_goal(mould, goal)", "goal_met(mould, book, goal)", "find_mends(mould, book, pool, goal)",
        "find_spoilers(mould, book, pool, goal)",
    ],
}
CLASSES = {
    ("moulds", "Mould"): [
        "__init__(self, height, width, cells, letters=None)", "letter_at(self, row, column)", "cells_of(self, letter)",
        "filled(self, numbers)", "with_cell(self, cell)", "with_same(self, cell, other)", "without_cell(self, cell)",
        "turned(self)", "renamed(self, rows, columns)", "beside(self, other)", "__len__(self)", "__iter__(self)",
        "__contains__(self, cell)", "__eq__(self, other)",
    ],
    ("taking", "Taking"): [
        "__init__(self, mould, book, known=())", "left_in(self, answer)", "take(self, letter, answer)",
    ],
    ("webs", "Web"): [
        "__init__(self, points, ties)", "as_mould(self)", "tie_number(self, one, other)", "friends_of(self, point)",
        "renamed_web(self, order)", "with_tie(self, tie)", "without_tie(self, tie)", "__len__(self)",
        "__iter__(self)", "__eq__(self, other)",
    ],
    ("polys", "Poly"): [
        "__init__(self, many, terms)", "value_at(self, values)", "slope_by(self, entry)", "__add__(self, other)",
        "__sub__(self, other)", "__mul__(self, other)", "__eq__(self, other)",
    ],
    ("programs", "Program"): ["__init__(self, entries, steps, results)", "__eq__(self, other)"],
    ("bench", "Bench"): [
        "__init__(self, mould, book)", "change(self, *edits)", "put_answers(self, numbers)", "take_back(self)",
        "known_table(self)", "is_met(self, goal)", "trial(self, *edits, goal)",
    ],
}
RESULTS = {
    "spans": ["Weights(row)"],
    "told": ["Hidden(numbers)"],
    "recover": ["Recovered(numbers, filling)", "Clash(weights)", "Given(rows)", "Parted(answer, numbers)"],
    "wholes": ["Whole(bottom, weights, numbers)"],
    "rests": ["RestWeights(row)", "RestHidden(numbers)"],
    "groups": ["Missing(column)", "Meeting(row, first, second)"],
    "powers": ["Fewest(count, row)", "Dependent(row, numbers)"],
    "pieces": ["Piece(points, ties, groups)"],
    "evenwalks": ["Walk(points, groups)"],
    "sidegroups": ["Balance(plus, minus, times, groups)"],
    "taking": ["Taken(steps, turns, missing)"],
    "solving": ["Solved(steps, letters)", "Ladder(read, taken, solved, told)", "Ring(points)"],
    "cores": ["Core(strikes, cells)"],
    "blocks": ["Block(rows, columns, places, most)"],
    "bothbounds": ["Bounds(low, low_budget, blocks, high, high_budget, cored, cored_budget)"],
    "bothgroups": ["Chain(cells)"],
    "bothleast": ["LeastBoth(row_groups, column_groups, many)"],
    "fewest": ["FewestGroups(groups, first, many)"],
    "floors": ["SideLot(points, ties, most)", "WebCore(strikes, ties)"],
    "sidebounds": ["SideBounds(low, bars, high, book)"],
    "plans": ["Played(path, answers)"],
    "branches": ["Come(path, book, filling)", "Never(path, answer, weights)", "Untold(path, filling, hidden)"],
    "lost": ["Lost(answers, numbers)", "Mended(wrong, answers, numbers)", "Worse(most)"],
    "strangers": [
        "Unseen(numbers, strangers)", "Filled(numbers, strangers)", "Twice(first, second)",
        "Explained(strangers, numbers)",
    ],
    "runs": ["Run(spots, slopes, answer, products)"],
    "gained": ["RunTable(rows, products)", "Apart(terms)"],
    "seconds": ["Bent(spots, along, back, bends, answer, products)", "Parts(base, lots)"],
}
PROPERTIES = {
    ("moulds", "Mould"): ["free", "letters_many"],
    ("taking", "Taking"): ["steps_taken", "known_letters", "letters_missing"],
    ("programs", "Program"): ["spots_many", "times_many"],
    ("bench", "Bench"): ["now_mould", "now_book", "now_answers", "done_log"],
}
GENERATORS = {
    ("groupings", "all_groupings"), ("groups", "least_groupings"), ("taking", "stuck_lots"),
    ("bothleast", "all_gapped"), ("fewest", "all_fewest"), ("branches", "plan_branches"),
    ("slopes", "ways_of"),
}


def module_of(name):
    return importlib.import_module("thinslopes." + name)


class InterfaceTest(unittest.TestCase):
    """The names, arguments and places that the section "The interface" lists."""

    def test_functions(self):
        for module, told in FUNCTIONS.items():
            for line in told:
                name = line.split("(")[0]
                function = vars(module_of(module))[name]
                self.assertTrue(inspect.isfunction(function), line)
                self.assertEqual(function.__module__, "thinslopes." + module, line)
                self.assertEqual(name + str(inspect.signature(function)), line)
                self.assertIs(inspect.isgeneratorfunction(function), (module, name) in GENERATORS, line)

    def test_methods_stand_in_the_class_itself(self):
        for (module, name), told in CLASSES.items():
            owner = vars(module_of(module))[name]
            self.assertEqual(owner.__module__, "thinslopes." + module)
            for line in told:
                method = vars(owner)[line.split("(")[0]]
                self.assertEqual(line.split("(")[0] + str(inspect.signature(method)), line)

    def test_results_keep_the_very_things_that_they_are_given(self):
        """Point 0.8"""
        for module, told in RESULTS.items():
            for line in told:
                owner = vars(module_of(module))[line.split("(")[0]]
                self.assertEqual(owner.__module__, "thinslopes." + module, line)
                self.assertEqual(owner.__name__ + str(inspect.signature(owner)), line)
                names = list(inspect.signature(owner).parameters)
                things = [[name] for name in names]
                for result in (owner(*things), owner(**dict(zip(names, things)))):
                    self.assertEqual(list(vars(result)), names, line)
                    for name, thing in zip(names, things):
                        self.assertIs(getattr(result, name), thing, line)

    def test_properties(self):
        for (module, name), told in PROPERTIES.items():
            for line in told:
                self.assertIsInstance(vars(vars(module_of(module))[name])[line], property)

    def test_errors_stand_in_their_file(self):
        for thing in vars(module_of("errors")).values():
            if inspect.isclass(thing):
                self.assertEqual(thing.__module__, "thinslopes.errors")
