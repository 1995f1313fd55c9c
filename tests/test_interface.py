"""The names and arguments that DOC.md lists stand in the files under which it lists them."""

import ast
import importlib
import inspect
import unittest

INTERFACE = {
    "letters": """
        check_letters(letters)
        check_word(letters, word, *, most=200)
        in_order(letters, words)
    """,
    "rules": """
        check_rule(letters, rule, *, names=())
        parts_of(rule)
        size_of(rule)
        depth_of(rule)
        signs_of(letters, rule)
        may_be_empty(rule)
    """,
    "reading": """
        read_rule(letters, text, *, names=())
        read_machine(letters, text)
    """,
    "writing": """
        write_rule(rule)
        write_machine(machine)
    """,
    "machines": """
        check_machine(letters, machine)
        run(letters, machine, word)
        is_taken(letters, machine, word)
        least(letters, machine)
        first_word(letters, machine)
        words_upto(letters, machine, length)
        is_none(letters, machine)
        is_all(letters, machine)
        is_finite(letters, machine)
    """,
    "folds": """
        denied(letters, machine)
        met(letters, machines)
        joined(letters, machines)
        less(letters, first, second)
        rowed(letters, first, second)
        repeated(letters, machine)
        turned(letters, machine)
        behind(letters, machine, word)
        ahead(letters, machine, word)
        beginnings(letters, machine)
        closings(letters, machine)
        middles(letters, machine)
    """,
    "making": """
        machine_of(letters, rule)
        word_machine(letters, words)
    """,
    "back": """
        rule_of(letters, machine)
    """,
    "deciding": """
        is_within(letters, first, second)
        is_same(letters, first, second)
        first_of(letters, first, second)
        parting_word(letters, first, second)
        pair_paper(letters, first, second)
        is_pair_paper(letters, first, second, pairs)
        parted(letters, machines)
    """,
    "leastness": """
        access_words(letters, machine)
        parting_words(letters, machine)
        is_leastness_paper(letters, machine, access, partings)
        fault_of(letters, machine)
        is_fault(letters, machine, fault)
    """,
    "ways": """
        weight_of(rule)
        is_of(letters, rule, word)
        is_way(letters, rule, word, way)
        count_ways(letters, rule, word)
        ways(letters, rule, word, *, most=100)
        way_at(letters, rule, word, place)
        place_of_way(letters, rule, word, way)
    """,
    "positions": """
        positions_of(letters, rule)
        useful_positions(letters, rule)
        count_roads(letters, rule, word)
        ways_of_length(letters, rule, length)
        double_word(letters, rule)
        two_ways(letters, rule)
        double_paper(letters, rule)
        is_double_paper(letters, rule, paper)
    """,
    "numbers": """
        count(letters, machine, length)
        upto(letters, machine, length)
        count_ahead(letters, machine, word)
        place_of(letters, machine, word)
        kth(letters, machine, place)
        next_word(letters, machine, word)
    """,
    "recurrences": """
        recurrence(letters, machine)
        square(letters, machine)
        is_recurrence(letters, machine, numbers, length)
        count_rest(letters, machine, length, divisor)
        parting_length(letters, first, second)
    """,
    "growth": """
        growth(letters, machine)
        growth_paper(letters, machine)
        is_growth_paper(letters, machine, told, paper)
    """,
    "near": """
        check_costs(costs)
        words_of(letters, moves)
        cost_of(moves, *, costs=(1, 1, 1))
        distance(letters, machine, word, *, costs=(1, 1, 1))
        moves_of(letters, machine, word, *, costs=(1, 1, 1))
        numbers_of(letters, machine, word, *, costs=(1, 1, 1))
        nearest(letters, machine, word, *, most, costs=(1, 1, 1))
        is_numbers(letters, machine, word, numbers, *, costs=(1, 1, 1))
        shows_distance(letters, machine, word, cost, moves, numbers, *, costs=(1, 1, 1))
        around(letters, machine, many)
    """,
    "apart": """
        between(letters, first, second, *, costs=(1, 1, 1))
        pair_numbers(letters, first, second, *, costs=(1, 1, 1))
        is_pair_numbers(letters, first, second, numbers, *, costs=(1, 1, 1))
        shows_between(letters, first, second, cost, moves, numbers, *, costs=(1, 1, 1))
        apart(letters, machine, *, costs=(1, 1, 1))
    """,
    "turners": """
        check_turner(letters, turner)
        road_count(letters, turner, word)
        outs(letters, turner, word, *, most=50)
        has_answer(letters, turner, word, answer)
        domain(letters, turner, *, into=None)
        images(letters, turner, *, of=None)
        same_of(letters, machine)
        one_move(letters)
        then(letters, first, second)
    """,
    "answers": """
        one_answer(letters, turner)
        is_one_paper(letters, turner, rests, idle)
        is_two_answers(letters, turner, word, one, other)
    """,
    "leads": """
        first_astray(letters, first, turner, second)
        is_astray(letters, first, turner, second, word, answer)
        lead_paper(letters, first, turner, second)
        is_lead_paper(letters, first, turner, second, triples)
    """,
    "learning": """
        fits(letters, machine, yes, no)
        least_fit(letters, yes, no, most)
        clash_tree(letters, yes, no, most)
        is_clash_tree(letters, yes, no, most, tree)
        unlike_words(letters, yes, no)
        are_unlike(letters, yes, no, words)
    """,
    "merging": """
        sample_of(letters, machine)
        merged_fit(letters, yes, no)
    """,
    "asking": """
        relearned(letters, log)
    """,
    "chances": """
        check_source(letters, source)
        chance_of(letters, source, word)
        chance_at(letters, source, machine, n)
        taken_by(letters, source, machine, n)
        search_machine(letters, machine)
        met_by(letters, source, machine, n)
        mean_places(letters, source, machine, n)
        chances_from(letters, source, machine)
        means_from(letters, source, machine)
        ever_taken(letters, source, machine)
        mean_first(letters, source, machine)
        race(letters, source, first, second)
    """,
    "bounds": """
        is_high(letters, source, machine, numbers)
        is_low(letters, source, machine, numbers)
        is_high_means(letters, source, machine, numbers)
        is_low_means(letters, source, machine, numbers)
    """,
    "games": """
        bring(letters, machine, *, who=0)
        is_rank_paper(letters, machine, ranks, *, who=0)
        keep_paper(letters, machine, *, who=0)
        is_keep_paper(letters, machine, keys, *, who=0)
        least_choice(letters, machine, table, *, side)
        greatest_choice(letters, machine, table, *, side)
        play(letters, machine, first, second, length)
    """,
    "again": """
        counts(letters, machine, *, who=0)
        is_count_paper(letters, machine, numbers, *, who=0)
        again(letters, machine, *, who=0)
        is_again_paper(letters, machine, ranks, *, who=0)
        promise(letters, machine, many, *, who=0)
        is_promise(letters, machine, many, table, *, who=0)
    """,
    "odds": """
        best_chances(letters, source, machine, *, who=0)
        best_choice(letters, source, machine, *, who=0)
        choice_chances(letters, source, machine, choice, *, who=0)
        is_high_odds(letters, source, machine, numbers, *, who=0)
        is_low_odds(letters, source, machine, choice, numbers, *, who=0)
    """,
    "sheets": """
        check_sheet(letters, sheet)
        has_word(letters, sheet)
        least_length(letters, sheet)
        least_lengths(letters, sheet)
        first_word_of(letters, sheet)
        used_names(letters, sheet)
        is_one_sided(letters, sheet)
        machine_of_sheet(letters, sheet)
        sheet_of(letters, machine)
    """,
    "trees": """
        is_in(letters, sheet, word)
        count_trees(letters, sheet, word)
        is_tree(letters, sheet, word, tree)
        trees(letters, sheet, word, *, most=100)
        tree_at(letters, sheet, word, place)
        place_of_tree(letters, sheet, word, tree)
        endless_paper(letters, sheet, word)
        is_endless_paper(letters, sheet, word, spots)
    """,
    "within": """
        leading_pairs(letters, sheet, machine)
        is_sheet_within(letters, sheet, machine)
        sheet_paper(letters, sheet, machine)
        is_sheet_paper(letters, sheet, machine, paper)
        outside_word(letters, sheet, machine)
        shared_word(letters, sheet, machine)
    """,
    "powers": """
        turning_of(letters, machine, word)
        members(letters, machine)
        ring_of(letters, machine)
        is_ring(letters, machine, word, states)
        rest_paper(letters, machine)
        is_rest_paper(letters, machine, rows)
    """,
    "hall": """
        replay(letters, journal)
    """,
    "finding": """
        all_places(letters, machine, text)
        count_places(letters, machine, text)
        greatest(letters, machine, text)
        replaced(letters, machine, text, by)
    """,
}
# Each class with the arguments of its making, and those of the methods that stand in its own body.
CLASSES = {
    ("finder", "Finder"): """
        __init__(self, letters, machine)
        begun(self)
        feed(self, piece)
        waiting(self)
    """,
    ("scribes", "Scribe"): """
        __init__(self, letters, turner)
        feed(self, piece)
        told(self)
        heard(self)
        finish(self)
    """,
    ("asking", "Learner"): """
        __init__(self, letters)
        question(self)
        answer(self, value)
        paper(self)
        log(self)
        undo(self)
    """,
    ("hall", "Hall"): """
        __init__(self, letters)
        put(self, name, rule)
        remove(self, name)
        rename(self, name, other)
        undo(self)
        redo(self)
        do_all(self, deeds)
        what_if(self, deeds)
        names(self)
        rule(self, name)
        machine(self, name)
        written_out(self, name)
        users(self, name)
        journal(self)
        __len__(self)
        __contains__(self, name)
    """,
}
PROPERTIES = {("finder", "Finder"): ["fed"], ("hall", "Hall"): ["can_undo", "can_redo"]}


class InterfaceTest(unittest.TestCase):
    def test_functions(self):
        for name, listed in INTERFACE.items():
            module = importlib.import_module("hallofwords." + name)
            tree = ast.parse(inspect.getsource(module))
            defined = {node.name for node in tree.body if isinstance(node, ast.FunctionDef)}
            for line in listed.strip().splitlines():
                function, arguments = line.strip().split("(", 1)
                self.assertIn(function, defined, name)
                self.assertEqual(str(inspect.signature(getattr(module, function))), "(" + arguments)

    def test_classes(self):
        for (name, called), listed in CLASSES.items():
            module = importlib.import_module("hallofwords." + name)
            tree = ast.parse(inspect.getsource(module))
            self.assertIn(called, {node.name for node in tree.body if isinstance(node, ast.ClassDef)})
            own = vars(getattr(module, called))
            for line in listed.strip().splitlines():
                method, arguments = line.strip().split("(", 1)
                self.assertEqual(str(inspect.signature(own[method])), "(" + arguments)
            for told in PROPERTIES.get((name, called), []):
                self.assertIsInstance(own[told], property)


if __name__ == "__main__":
    unittest.main()
