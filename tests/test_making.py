import random
import unittest

from helpers import all_words, belongs, check_new, cycle, some_rule, some_rules, taken, taken_words

from hallofwords.errors import HallError, TooGreat, TooMany
from hallofwords.machines import check_machine, least
from hallofwords.making import machine_of, word_machine

A = ("one", "a")
ANY = ("one", "ab")
MOST = {"a": 7, "ab": 5, "ba": 5, "abc": 4}


def signs(number, rule=A):
    """A rule of the words with so many signs, for numbers that are at least 1."""
    if number <= 8:
        return ("times", rule, number, number)
    return ("row", [("times", rule, 8, 8)] * (number // 8) + [("times", rule, number % 8, number % 8)])


def multiples(number):
    return ("times", signs(number), 0, None)


def from_the_end(number):
    """The words in which an a stands so many places ahead of the last sign: 2 ** (number + 1) states."""
    return ("row", [("times", ANY, 0, None), A, signs(number, ANY) if number else ("empty",)])


GREAT = ("both", [multiples(44), multiples(45)])
MANY = ("both", [multiples(47), multiples(43)])


class SlowMachine:
    """Point 19 once more, with other means: the things are counted, and their kinds found by all short words."""

    def __init__(self, letters):
        self.letters = letters

    def made(self, first, step, is_end):
        things, table = {first: 0}, []
        order = [first]
        for thing in order:
            row = []
            for at in range(len(self.letters)):
                reached = step(thing, at)
                if reached not in things:
                    things[reached] = len(order)
                    order.append(reached)
                    if len(order) > 2000:
                        raise TooMany()
                row.append(things[reached])
            table.append(row)
        return self.merged(table, [is_end(thing) for thing in order])

    def merged(self, table, ends):
        groups = [set(k for k, end in enumerate(ends) if end is told) for told in (True, False)]
        groups = [group for group in groups if group]
        while True:
            place = {state: k for k, group in enumerate(groups) for state in group}
            parts = {}
            for state, row in enumerate(table):
                parts.setdefault((place[state], *[place[other] for other in row]), set()).add(state)
            if len(parts) == len(groups):
                break
            groups = list(parts.values())
            if len(groups) > 60:
                raise TooGreat()
        order, new = [place[0]], []
        for group in order:
            state = min(groups[group])
            for other in table[state]:
                if place[other] not in order:
                    order.append(place[other])
            new.append([order.index(place[other]) for other in table[state]])
        return new, [ends[min(groups[group])] for group in order]

    def pairs(self, one, other, told):
        return self.made((0, 0), lambda pair, at: (one[0][pair[0]][at], other[0][pair[1]][at]),
                         lambda pair: bool(told(one[1][pair[0]], other[1][pair[1]])))

    def row(self, one, other):
        def step(thing, at):
            state = one[0][thing[0]][at]
            states = frozenset(other[0][k][at] for k in thing[1])
            return state, states | {0} if one[1][state] else states

        return self.made((0, frozenset([0] if one[1][0] else [])), step, lambda thing: any(
            other[1][k] for k in thing[1]))

    def turns(self, machine):
        def step(thing, at):
            states = frozenset(machine[0][k][at] for k in thing)
            return states | {0} if any(machine[1][k] for k in states) else states

        return self.made(frozenset([0]), step, lambda thing: any(machine[1][k] for k in thing))

    def of(self, rule):
        many = len(self.letters)
        if rule[0] == "none":
            return self.merged([[0] * many], [False])
        if rule[0] == "empty":
            return self.merged([[1] * many] * 2, [True, False])
        if rule[0] == "one":
            return self.merged([[1 if sign in rule[1] else 2 for sign in self.letters], [2] * many, [2] * many],
                               [False, True, False])
        if rule[0] == "not":
            table, ends = self.of(rule[1])
            return table, [not end for end in ends]
        if rule[0] == "times":
            return self.times(self.of(rule[1]), rule[2], rule[3])
        machines = [self.of(inner) for inner in rule[1]]
        found = machines[0]
        for machine in machines[1:]:
            if rule[0] == "row":
                found = self.row(found, machine)
            else:
                found = self.pairs(found, machine, min if rule[0] == "both" else max)
        return found

    def times(self, machine, low, high):
        found = empty = self.of(("empty",))
        for _ in range(low):
            found = self.row(found, machine)
        if high is None:
            return self.pairs(found, self.row(found, self.turns(machine)), max)
        if high > low:
            maybe = self.pairs(machine, empty, max)
            for _ in range(high - low):
                found = self.row(found, maybe)
        return found


def said(call, *values):
    try:
        return call(*values)
    except HallError as error:
        return type(error)


class MachineOfTest(unittest.TestCase):
    def raises(self, error, rule, letters="a"):
        self.assertIs(said(machine_of, letters, rule), error)

    def check(self, letters, rule):
        found = machine_of(letters, rule)
        check_machine(letters, found)
        self.assertEqual(least(letters, found), found)
        for word in all_words(letters, MOST[letters]):
            self.assertIs(taken(letters, found, word), belongs(rule, word), (rule, word))

    def test_plain_forms(self):
        self.assertEqual(machine_of("ab", ("none",)), ([[0, 0]], [False]))
        self.assertEqual(machine_of("ab", ("empty",)), ([[1, 1], [1, 1]], [True, False]))
        self.assertEqual(machine_of("ab", ("one", "a")), ([[1, 2], [2, 2], [2, 2]], [False, True, False]))
        self.assertEqual(machine_of("ab", ("one", "b")), ([[1, 2], [1, 1], [1, 1]], [False, False, True]))
        self.assertEqual(machine_of("ab", ANY), ([[1, 1], [2, 2], [2, 2]], [False, True, False]))
        self.assertEqual(machine_of("ab", ("not", ("none",))), ([[0, 0]], [True]))

    def test_every_form(self):
        b = ("one", "b")
        for rule in (
            ("row", [A]),
            ("row", [A, b, A]),
            ("row", [("times", A, 0, None), b, ("times", ANY, 0, 2)]),
            ("either", [A]),
            ("either", [A, ("row", [b, b]), ("empty",)]),
            ("both", [A]),
            ("both", [("not", A), ("times", ANY, 0, 3), ("row", [A, ("not", ("none",))])]),
            ("not", ("not", A)),
            ("not", ("row", [A, ("not", ("none",))])),
        ):
            self.check("ab", rule)
            self.check("ba", rule if "ab" not in str(rule) else ("not", ("empty",)))

    def test_times(self):
        two = ("row", [A, ("one", "b")])
        for rule in (A, ("empty",), ("none",), two, ("either", [two, ("empty",)]), ("either", [A, two])):
            for low, high in ((0, 0), (0, None), (0, 1), (0, 3), (1, None), (2, 2), (2, 4), (3, None), (1, 1), (8, 8),
                              (0, 8), (8, None)):
                self.check("ab", ("times", rule, low, high))

    def test_made_up_rules(self):
        for letters, rule in some_rules(51, 250):
            self.check(letters, rule)

    def test_examples_of_point_13(self):
        self.assertEqual(machine_of("a", ("both", [multiples(4), multiples(15)])), cycle(60, 0))
        self.raises(TooGreat, GREAT)
        self.raises(TooMany, MANY)

    def test_first_error_that_is_due(self):
        self.raises(TooGreat, ("row", [GREAT, MANY]))
        self.raises(TooMany, ("row", [MANY, GREAT]))
        self.raises(TooGreat, ("either", [A, ("not", GREAT), MANY]))
        # The machines of all rules are made ahead of what is made of them.
        self.raises(TooMany, ("both", [multiples(44), multiples(45), MANY]))
        self.raises(TooGreat, ("row", [signs(31), signs(31), ("not", GREAT)]))
        self.raises(TooMany, ("row", [signs(31), signs(31), MANY]))
        self.raises(TooGreat, ("row", [signs(31), signs(31), A]))
        # Two by two from the left.
        self.raises(TooMany, ("both", [multiples(47), multiples(43), ("none",)]))
        self.assertEqual(machine_of("a", ("both", [("none",), multiples(47), multiples(43)])), ([[0]], [False]))

    def test_times_makes_its_rule_first(self):
        self.raises(TooMany, ("times", MANY, 0, 0))
        self.raises(TooGreat, ("times", GREAT, 0, 0))
        self.raises(TooMany, ("not", ("times", MANY, 0, None)))

    def test_errors_of_times(self):
        self.raises(TooGreat, ("times", signs(31), 2, 2))
        self.raises(TooGreat, ("times", signs(31), 1, 2))
        self.assertEqual(len(machine_of("a", ("times", signs(29), 2, 2))[0]), 60)
        self.raises(TooGreat, ("times", ("either", [signs(7), signs(11)]), 0, None))
        # The words alone would make a machine of 31 states, but the row with the turns has 62.
        self.raises(TooGreat, ("times", signs(30), 1, None))
        self.assertEqual(len(machine_of("a", ("times", signs(29), 1, None))[0]), 30)

    def test_maybe_is_made_only_if_it_is_needed(self):
        # With the word without signs this machine of 60 states has 61.
        rule = ("both", [("row", [multiples(4), A]), ("row", [multiples(15), A])])
        self.raises(TooGreat, ("either", [rule, ("empty",)]))
        self.raises(TooGreat, ("times", rule, 0, 1))
        self.assertEqual(machine_of("a", ("times", rule, 1, 1)), cycle(60, 1))
        self.assertEqual(machine_of("a", ("times", rule, 0, 0)), ([[1], [1]], [True, False]))

    def test_60_and_61_states(self):
        self.assertEqual(len(machine_of("a", signs(58))[0]), 60)
        self.raises(TooGreat, signs(59))

    def test_great_sets(self):
        self.assertEqual(len(machine_of("ab", from_the_end(4))[0]), 32)
        self.raises(TooGreat, from_the_end(5), "ab")
        self.raises(TooMany, from_the_end(11), "ab")

    def test_errors_and_machines_with_other_means(self):
        rng = random.Random(52)
        seen = {}
        for _ in range(250):
            letters = rng.choice(["a", "ab", "ab", "abc"])
            rule = self.wide_rule(rng, letters)
            found = said(machine_of, letters, rule)
            self.assertEqual(found, said(SlowMachine(letters).of, rule), rule)
            kind = found if isinstance(found, type) else "fits"
            seen[kind] = seen.get(kind, 0) + 1
        self.assertGreater(min(seen.get(kind, 0) for kind in (TooGreat, TooMany, "fits")), 5, seen)

    def wide_rule(self, rng, letters, depth=2):
        if depth == 0:
            kind = rng.choice("multiples multiples signs end end some".split())
            if kind == "multiples":
                return multiples(rng.choice([2, 3, 41, 43, 44, 45, 47]))
            if kind == "signs":
                return signs(rng.randint(1, 40), ("one", letters))
            if kind == "end" and letters == "ab":
                return from_the_end(rng.choice([1, 4, 5, 10, 11]))
            return some_rule(rng, letters, 2)
        kind = rng.choice(["row", "either", "both", "not", "times"])
        if kind == "not":
            return ("not", self.wide_rule(rng, letters, depth - 1))
        if kind == "times":
            low = rng.randint(0, 3)
            return ("times", self.wide_rule(rng, letters, depth - 1), low, rng.choice([None, low, low + 2]))
        return (kind, [self.wide_rule(rng, letters, depth - 1) for _ in range(rng.randint(1, 3))])

    def test_answers_are_new(self):
        for rule in (A, ("row", [A]), ("either", [A]), ("times", A, 1, 1), ("times", A, 0, 0), ("not", A)):
            check_new(self, machine_of, "ab", rule)


class WordMachineTest(unittest.TestCase):
    def test_examples(self):
        self.assertEqual(word_machine("ab", []), ([[0, 0]], [False]))
        self.assertEqual(word_machine("ab", [""]), ([[1, 1], [1, 1]], [True, False]))
        self.assertEqual(word_machine("ab", ["a", "a", ""]), ([[1, 2], [2, 2], [2, 2]], [True, True, False]))
        self.assertEqual(word_machine("ba", ["b"]), ([[1, 2], [2, 2], [2, 2]], [False, True, False]))

    def test_made_up_words(self):
        rng = random.Random(53)
        for letters in ("a", "ab", "ba", "abc"):
            every = all_words(letters, MOST[letters])
            for _ in range(60):
                words = [rng.choice(every) for _ in range(rng.randint(0, 6))]
                found = word_machine(letters, words + words[:2])
                self.assertEqual(least(letters, found), found)
                self.assertEqual(taken_words(letters, found, MOST[letters]), [w for w in every if w in words])

    def test_60_and_61_states(self):
        self.assertEqual(len(word_machine("ab", ["a" * 30])[0]), 32)
        # The first state, 28 for each word, the one ahead of the last b, the end, and the one that leads nowhere.
        self.assertEqual(len(word_machine("ab", ["a" * 29 + "b", "b" * 30])[0]), 60)
        with self.assertRaises(TooGreat):
            word_machine("ab", ["a" * 30, "b" * 30])

    def test_no_too_many(self):
        rng = random.Random(54)
        words = ["".join(rng.choice("abcdef") for _ in range(30)) for _ in range(20)]
        with self.assertRaises(TooGreat):
            word_machine("abcdef", words)
        # More things are met than 2000, and yet it is TooGreat that is raised.
        words = ["".join(rng.choice("abcdef") for _ in range(120)) for _ in range(20)]
        with self.assertRaises(TooGreat):
            word_machine("abcdef", words)

    def test_answers_are_new(self):
        check_new(self, word_machine, "ab", ["ab", "ba", "ab"])


if __name__ == "__main__":
    unittest.main()
