"""The names and arguments that DOC.md lists stand in the files under which it lists them."""

import ast
import importlib
import inspect
import unittest

INTERFACE = {
    "letters": """
        check_letters(letters)
        check_word(letters, word, *, most=200)
        in_order(letters, words)
    """,
    "rules": """
        check_rule(letters, rule, *, names=())
        parts_of(rule)
        size_of(rule)
        depth_of(rule)
        signs_of(letters, rule)
        may_be_empty(rule)
    """,
    "reading": """
        read_rule(letters, text, *, names=())
        read_machine(letters, text)
    """,
    "writing": """
        write_rule(rule)
        write_machine(machine)
    """,
    "machines": """
        check_machine(letters, machine)
        run(letters, machine, word)
        is_taken(letters, machine, word)
        least(letters, machine)
        first_word(letters, machine)
        words_upto(letters, machine, length)
        is_none(letters, machine)
        is_all(letters, machine)
        is_finite(letters, machine)
    """,
    "folds": """
        denied(letters, machine)
        met(letters, machines)
        joined(letters, machines)
        less(letters, first, second)
        rowed(letters, first, second)
        repeated(letters, machine)
        turned(letters, machine)
        behind(letters, machine, word)
        ahead(letters, machine, word)
        beginnings(letters, machine)
        closings(letters, machine)
        middles(letters, machine)
    """,
    "making": """
        machine_of(letters, rule)
        word_machine(letters, words)
    """,
    "back": """
        rule_of(letters, machine)
    """,
    "deciding": """
        is_within(letters, first, second)
        is_same(letters, first, second)
        first_of(letters, first, second)
        parting_word(letters, first, second)
        pair_paper(letters, first, second)
        is_pair_paper(letters, first, second, pairs)
        parted(letters, machines)
    """,
    "leastness": """
        access_words(letters, machine)
        parting_words(letters, machine)
        is_leastness_paper(letters, machine, access, partings)
        fault_of(letters, machine)
        is_fault(letters, machine, fault)
    """,
    "ways": """
        weight_of(rule)
        is_of(letters, rule, word)
        is_way(letters, rule, word, way)
        count_ways(letters, rule, word)
        ways(letters, rule, word, *, most=100)
        way_at(letters, rule, word, place)
        place_of_way(letters, rule, word, way)
    """,
}


class InterfaceTest(unittest.TestCase):
    def test_functions(self):
        for name, listed in INTERFACE.items():
            module = importlib.import_module("hallofwords." + name)
            tree = ast.parse(inspect.getsource(module))
            defined = {node.name for node in tree.body if isinstance(node, ast.FunctionDef)}
            for line in listed.strip().splitlines():
                function, arguments = line.strip().split("(", 1)
                self.assertIn(function, defined, name)
                self.assertEqual(str(inspect.signature(getattr(module, function))), "(" + arguments)


if __name__ == "__main__":
    unittest.main()
