import itertools
import unittest

from helpers import check_new, counter, cycle, some_machines

from hallofwords.back import in_either, in_row, repeats, rule_of
from hallofwords.errors import BadSize, HallError, TooDeep
from hallofwords.machines import least
from hallofwords.making import machine_of
from hallofwords.rules import check_rule, depth_of, size_of

A, B = ("one", "a"), ("one", "b")
NONE, EMPTY = ("none",), ("empty",)


def unpacked(kind, rule):
    """The rules of which the rule is made, if it is of this kind, also within one another."""
    if rule[0] != kind:
        return [rule]
    return [inner for part in rule[1] for inner in unpacked(kind, part)]


def packed(kind, rules, nothing):
    if len(rules) < 2:
        return rules[0] if rules else nothing
    if len(rules) < 7:
        return (kind, rules)
    return (kind, rules[:5] + [packed(kind, rules[5:], nothing)])


def put_row(*rules):
    flat = [inner for rule in rules for inner in unpacked("row", rule)]
    if ("none",) in flat:
        return NONE
    while EMPTY in flat:
        flat.remove(EMPTY)
    return packed("row", flat, EMPTY)


def put_either(letters, *rules):
    flat = [inner for rule in rules for inner in unpacked("either", rule)]
    while NONE in flat:
        flat.remove(NONE)
    ones = [rule for rule in flat if rule[0] == "one"]
    if ones:
        place = flat.index(ones[0])
        signs = {sign for rule in ones for sign in rule[1]}
        flat[place] = ("one", "".join(sorted(signs, key=letters.index)))
        flat = flat[:place + 1] + [rule for rule in flat[place + 1:] if rule[0] != "one"]
    flat = [rule for place, rule in enumerate(flat) if rule not in flat[:place]]
    return packed("either", flat, NONE)


def put_repeats(rule):
    if rule in (NONE, EMPTY):
        return EMPTY
    return rule if rule[0] == "times" and rule[2] == 0 and rule[3] is None else ("times", rule, 0, None)


def slow_rule(letters, machine):
    n = len(least(letters, machine)[0])
    if n > 6:
        raise BadSize(n)
    rule = whole_rule(letters, machine)
    if size_of(rule) > 60:
        raise BadSize(size_of(rule))
    if depth_of(rule) > 8:
        raise TooDeep()
    return rule


def whole_rule(letters, machine):
    """Point 20 once more, without its errors: b is -1 and e is the number of the states."""
    table, ends = least(letters, machine)
    n = len(table)
    way = {}
    for i, j in itertools.product(range(-1, n), range(n + 1)):
        way[i, j] = NONE
        signs = [sign for sign, state in zip(letters, table[i] if i >= 0 else []) if state == j]
        if signs:
            way[i, j] = ("one", "".join(signs))
        if (i, j) == (-1, 0) or j == n and i >= 0 and ends[i]:
            way[i, j] = EMPTY
    for k in reversed(range(n)):
        rest = [i for i in range(-1, n + 1) if i < k or i == n]
        way = {(i, j): put_either(letters, way[i, j], put_row(way[i, k], put_repeats(way[k, k]), way[k, j]))
               for i in rest if i != n for j in rest if j != -1}
    return way[-1, n]


def said(call, *values):
    try:
        return call(*values)
    except HallError as error:
        return type(error), vars(error)


class RuleOfTest(unittest.TestCase):
    def test_one_state(self):
        self.assertEqual(rule_of("ab", ([[0, 0]], [False])), NONE)
        self.assertEqual(rule_of("ab", ([[0, 0]], [True])), ("times", ("one", "ab"), 0, None))
        self.assertEqual(rule_of("a", ([[1], [0]], [True, True])), ("times", A, 0, None))

    def test_two_states(self):
        self.assertEqual(rule_of("a", ([[1], [1]], [True, False])), EMPTY)
        self.assertEqual(rule_of("a", cycle(2, 0)), ("times", ("row", [A, A]), 0, None))
        self.assertEqual(rule_of("a", cycle(2, 1)), ("row", [("times", ("row", [A, A]), 0, None), A]))
        self.assertEqual(rule_of("ab", ([[1, 0], [1, 1]], [False, True])),
                         ("row", [("times", B, 0, None), A, ("times", ("one", "ab"), 0, None)]))
        self.assertEqual(rule_of("ba", ([[0, 1], [1, 1]], [False, True])),
                         ("row", [("times", B, 0, None), A, ("times", ("one", "ba"), 0, None)]))

    def test_three_states(self):
        turns = ("times", ("either", [A, ("row", [B, A])]), 0, None)
        again = ("times", ("either", [B, ("row", [A, turns, B, B])]), 0, None)
        self.assertEqual(rule_of("ab", ([[1, 0], [1, 2], [1, 0]], [False, False, True])),
                         ("row", [again, A, turns, B]))
        self.assertEqual(rule_of("abc", ([[1, 1, 2], [2, 2, 2], [2, 2, 2]], [True, True, False])),
                         ("either", [EMPTY, ("one", "ab")]))

    def test_rows_of_more_than_six(self):
        ring = ("times", ("row", [A] * 6), 0, None)
        self.assertEqual(rule_of("a", cycle(6, 4)), ("row", [ring] + [A] * 4))
        self.assertEqual(rule_of("a", cycle(6, 5)), ("row", [ring] + [A] * 5))
        machine = ([[3, 0], [1, 0], [2, 1], [2, 3], [3, 0]], [True, True, True, False, False])
        some_a, some_b = ("times", A, 0, None), ("times", B, 0, None)
        inner = ("row", [B, some_a, B, some_b, A, ("row", [some_b, A])])
        last = ("either", [EMPTY, ("row", [A, some_b])])
        self.assertEqual(rule_of("ba", machine), ("row", [
            ("times", ("either", [A, inner]), 0, None),
            ("either", [EMPTY, ("row", [B, some_a, B, some_b, last])]),
        ]))

    def test_eithers_of_more_than_six(self):
        table = [[4, 2, 4, 1, 3, 2], [3, 5, 4, 5, 5, 4], [5, 5, 5, 2, 4, 5], [5, 5, 4, 5, 5, 5], [5] * 6, [5] * 6]
        c, d, e, bf = ("one", "c"), ("one", "d"), ("one", "e"), ("one", "bf")
        some_d = ("times", d, 0, None)
        self.assertEqual(rule_of("abcdef", (table, [True] * 5 + [False])), ("either", [
            EMPTY,
            ("one", "ace"),
            ("row", [d, ("either", [EMPTY, A])]),
            ("row", [bf, some_d]),
            ("row", [e, c]),
            ("either", [
                ("row", [d, ("either", [("one", "cf"), ("row", [A, c])])]),
                ("row", [bf, some_d, e]),
            ]),
        ]))

    def test_six_and_seven_states(self):
        self.assertEqual(rule_of("a", counter(4)), ("row", [A] * 4))
        for letters, machine in (("a", counter(5)), ("ab", cycle(7, 3, letters="ab")), ("a", cycle(60, 0))):
            with self.assertRaises(BadSize) as caught:
                rule_of(letters, machine)
            self.assertEqual(caught.exception.size, len(machine[0]))
        # Seven states of which the least machine has six.
        table, ends = cycle(6, 2)
        self.assertEqual(rule_of("a", (table + [[0]], ends + [True])), rule_of("a", cycle(6, 2)))

    def test_all_machines_of_up_to_three_states(self):
        for n in (1, 2, 3):
            rows = list(itertools.product(range(n), repeat=2))
            for table in itertools.product(rows, repeat=n):
                for ends in itertools.product([True, False], repeat=n):
                    machine = ([list(row) for row in table], list(ends))
                    if least("ab", machine) == machine:
                        rule = rule_of("ab", machine)
                        self.assertEqual(rule, slow_rule("ab", machine))
                        self.assertEqual(machine_of("ab", rule), machine)

    def test_made_up_machines(self):
        seen = {}
        for letters, machine in some_machines(61, 600, most=6, letters=("a", "ab", "ba", "abc", "fedcba")):
            found = said(rule_of, letters, machine)
            self.assertEqual(found, said(slow_rule, letters, machine))
            if isinstance(found[0], str):
                self.assertIsNone(check_rule(letters, found))
                self.assertEqual(machine_of(letters, found), least(letters, machine))
            kind = "rule" if isinstance(found[0], str) else found[0]
            seen[kind] = seen.get(kind, 0) + 1
        self.assertGreater(min(seen.get(kind, 0) for kind in ("rule", BadSize, TooDeep)), 0, seen)

    def check(self, table, ends, size, depth, error):
        machine = (table, [k in ends for k in range(len(table))])
        rule = whole_rule("ab", machine)
        self.assertEqual((size_of(rule), depth_of(rule)), (size, depth))
        if error is None:
            self.assertEqual(rule_of("ab", machine), rule)
        else:
            with self.assertRaises(HallError) as caught:
                rule_of("ab", machine)
            self.assertIs(type(caught.exception), error)
            self.assertEqual(vars(caught.exception), {"size": size} if error is BadSize else {})

    def test_60_and_61_parts(self):
        self.check([[1, 0], [2, 3], [3, 1], [0, 2]], (3,), 60, 8, None)
        self.check([[1, 2], [1, 3], [4, 3], [1, 2], [1, 4]], (0, 4), 61, 8, BadSize)

    def test_depth_8_and_9(self):
        self.check([[1, 2], [1, 3], [2, 3], [2, 3]], (1, 3), 40, 8, None)
        self.check([[0, 1], [1, 2], [3, 1], [2, 0]], (2,), 39, 9, TooDeep)

    def test_parts_ahead_of_depth(self):
        self.check([[1, 2], [0, 3], [4, 1], [4, 2], [3, 5], [1, 0]], (1, 2, 5), 283, 11, BadSize)

    def test_answers_are_new(self):
        for machine in (([[1, 0], [1, 2], [1, 0]], [False, False, True]), ([[0, 0]], [True])):
            check_new(self, rule_of, "ab", machine)


class PuttingTogetherTest(unittest.TestCase):
    """What point 20 says of rows, eithers and repeats, also where no machine leads to it."""

    def test_rows(self):
        for rules, answer in (
            ([], EMPTY),
            ([EMPTY, EMPTY], EMPTY),
            ([A, EMPTY], A),
            ([A, NONE, B], NONE),
            ([A, B, A], ("row", [A, B, A])),
            ([("row", [A, ("row", [B, A])]), B], ("row", [A, B, A, B])),
            ([("either", [("row", [A, B]), A]), B], ("row", [("either", [("row", [A, B]), A]), B])),
            ([A] * 6, ("row", [A] * 6)),
            ([A] * 5 + [B] * 2, ("row", [A] * 5 + [("row", [B, B])])),
            ([("row", [A] * 5 + [("row", [A] * 6)]), B], ("row", [A] * 5 + [("row", [A] * 5 + [("row", [A, B])])])),
        ):
            self.assertEqual(in_row(rules), answer)

    def test_eithers(self):
        row, other = ("row", [A, B]), ("row", [B, A])
        six = [("row", [A] * k) for k in range(2, 8)]
        for rules, answer in (
            ([], NONE),
            ([NONE, NONE], NONE),
            ([NONE, EMPTY], EMPTY),
            ([B, A], ("one", "ab")),
            ([row, B, row, EMPTY, A, EMPTY], ("either", [row, ("one", "ab"), EMPTY])),
            ([("either", [row, ("either", [B, other])]), row, A], ("either", [row, ("one", "ab"), other])),
            ([("row", [("either", [A, row]), B]), A], ("either", [("row", [("either", [A, row]), B]), A])),
            (six, ("either", six)),
            (six + [A, EMPTY], ("either", six[:5] + [("either", [six[5], A, EMPTY])])),
            ([("either", six[:5] + [("either", [six[5], A])]), B],
             ("either", six[:5] + [("either", [six[5], ("one", "ab")])])),
        ):
            self.assertEqual(in_either("ab", rules), answer)
        self.assertEqual(in_either("ba", [A, row, B]), ("either", [("one", "ba"), row]))

    def test_repeats(self):
        turns = ("times", A, 0, None)
        for rule, answer in ((NONE, EMPTY), (EMPTY, EMPTY), (A, turns), (turns, turns),
                             (("times", A, 1, None), ("times", ("times", A, 1, None), 0, None)),
                             (("times", A, 0, 1), ("times", ("times", A, 0, 1), 0, None)),
                             (("row", [A, turns]), ("times", ("row", [A, turns]), 0, None))):
            self.assertEqual(repeats(rule), answer)


if __name__ == "__main__":
    unittest.main()
