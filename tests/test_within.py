import random
import unittest

from growing import some_sheet, some_sheets, words_of
from helpers import all_words, check_new, cycle, some_machine, taken

from hallofwords.errors import BadSize
from hallofwords.machines import is_taken
from hallofwords.sheets import first_word_of, machine_of_sheet
from hallofwords.trees import is_in
from hallofwords.within import (
    is_sheet_paper, is_sheet_within, leading_pairs, outside_word, shared_word, sheet_paper
)

ONE = ("one", "a")
EMPTY = ("empty",)
# As many b behind as a ahead.
BALANCED = [("s", ("either", [("row", [ONE, ("name", "s"), ("one", "b")]), EMPTY]))]


def pairs_made(letters, machine, rule, told):
    """The pairs that a rule makes, straight from point 134."""
    states = range(len(machine[0]))
    if rule[0] == "empty":
        return {(p, p) for p in states}
    if rule[0] == "one":
        return {(p, machine[0][p][letters.index(sign)]) for p in states for sign in rule[1]}
    if rule[0] == "name":
        return set(told[rule[1]])
    inner = [pairs_made(letters, machine, part, told) for part in rule[1]]
    if rule[0] == "either":
        return set().union(*inner)
    found = inner[-1]
    for pairs in inner[-2::-1]:
        found = {(p, r) for p, q in pairs for q2, r in found if q == q2}
    return found


def slow_pairs(letters, sheet, machine):
    told = {name: set() for name, _ in sheet}
    while True:
        more = {name: pairs_made(letters, machine, body, told) for name, body in sheet}
        if more == told:
            return [sorted(told[name]) for name, _ in sheet]
        told = more


def slow_paper(letters, sheet, machine, paper):
    states = range(len(machine[0]))
    if len(paper) != len(sheet):
        return False
    for pairs in paper:
        if pairs != sorted(set(pairs)) or not all(p in states and q in states for p, q in pairs):
            return False
    told = {name: set(pairs) for (name, _), pairs in zip(sheet, paper)}
    if not all(pairs_made(letters, machine, body, told) <= told[name] for name, body in sheet):
        return False
    return all(machine[1][q] for p, q in paper[0] if p == 0)


def led(letters, machine, state, word):
    for sign in word:
        state = machine[0][state][letters.index(sign)]
    return state


def first_in_order(letters, words):
    return min(words, key=lambda word: (len(word), [letters.index(sign) for sign in word]), default=None)


def some_cases(seed, number, **told):
    for rng, letters, sheet in some_sheets(seed, number, **told):
        machine = some_machine(rng, letters, 3)
        if rng.random() < 0.4:
            # Nearly all states are ends, so that sheets lie within the machine more often.
            machine = (machine[0], [rng.random() < 0.85 for _ in machine[1]])
        yield rng, letters, sheet, machine


class PairsTest(unittest.TestCase):
    def test_against_the_document(self):
        seen = {True: 0, False: 0}
        for rng, letters, sheet, machine in some_cases(1901, 300):
            pairs = check_new(self, leading_pairs, letters, sheet, machine)
            self.assertEqual(pairs, slow_pairs(letters, sheet, machine))
            words = words_of(sheet, 6)
            for (name, _), told in zip(sheet, pairs):
                short = {(p, led(letters, machine, p, word)) for p in range(len(machine[0])) for word in words[name]}
                self.assertLessEqual(short, set(told))
            within = all(machine[1][q] for p, q in pairs[0] if p == 0)
            self.assertIs(check_new(self, is_sheet_within, letters, sheet, machine), within)
            self.assertEqual(check_new(self, sheet_paper, letters, sheet, machine), pairs if within else None)
            self.assertIs(check_new(self, is_sheet_paper, letters, sheet, machine, pairs), within)
            seen[within] += 1
        self.assertGreater(min(seen.values()), 60)

    def test_short_words_are_enough_for_small_machines(self):
        equal = 0
        for rng, letters, sheet, machine in some_cases(1902, 250, letters=("a", "ab"), most=2, depth=2):
            pairs = leading_pairs(letters, sheet, machine)
            words = words_of(sheet, 10 if len(letters) == 1 else 8)
            short = [sorted({(p, led(letters, machine, p, word)) for p in range(len(machine[0]))
                             for word in words[name]}) for name, _ in sheet]
            self.assertEqual(pairs, short)
            equal += sum(map(len, pairs)) > 4
        self.assertGreater(equal, 25)

    def test_states_that_no_word_leads_to(self):
        machine = ([[0], [2], [1]], [True, False, False])
        self.assertEqual(leading_pairs("a", [("s", ("row", [ONE, ONE])), ("t", ("one", "a"))], machine),
                         [[(0, 0), (1, 1), (2, 2)], [(0, 0), (1, 2), (2, 1)]])
        self.assertTrue(is_sheet_within("a", [("s", ONE)], machine))
        self.assertEqual(leading_pairs("a", [("s", ("name", "s"))], machine), [[]])

    def test_far_pairs(self):
        # By a around 4 states, and then by b around 5: every number of turns leads to another pair.
        machine = ([[(k + 1) % 4, 4] for k in range(4)] + [[k, 4 + (k - 3) % 5] for k in range(4, 9)],
                   [False] * 9)
        self.assertEqual(leading_pairs("ab", BALANCED, machine), slow_pairs("ab", BALANCED, machine))
        # By a one state on, and by b one back, around 20 states.
        machine = ([[(k + 1) % 20, (k + 19) % 20] for k in range(20)], [k == 0 for k in range(20)])
        self.assertEqual(leading_pairs("ab", BALANCED, machine), [[(k, k) for k in range(20)]])
        self.assertTrue(is_sheet_within("ab", BALANCED, machine))

    def test_examples(self):
        self.assertTrue(is_sheet_within("ab", BALANCED, ([[0, 0]], [True])))
        self.assertEqual(sheet_paper("ab", BALANCED, ([[0, 0]], [True])), [[(0, 0)]])
        self.assertIsNone(sheet_paper("ab", BALANCED, ([[0, 0]], [False])))
        self.assertEqual(outside_word("ab", BALANCED, ([[0, 0]], [False])), "")
        self.assertEqual(shared_word("ab", BALANCED, ([[0, 0]], [True])), "")
        self.assertIsNone(shared_word("ab", BALANCED, ([[0, 0]], [False])))
        # Even lengths alone belong to it.
        self.assertTrue(is_sheet_within("ab", BALANCED, cycle(2, 0, letters="ab")))
        self.assertEqual(sheet_paper("ab", BALANCED, cycle(2, 0, letters="ab")), [[(0, 0), (1, 1)]])
        self.assertEqual(outside_word("ab", BALANCED, cycle(4, 0, letters="ab")), "ab")
        self.assertEqual(outside_word("ab", BALANCED, cycle(10, 0, 2, 4, 8, letters="ab")), "aaabbb")


class PaperTest(unittest.TestCase):
    def test_conditions(self):
        # A word of t is a sign; by a the state goes on around, by b it stays.
        machine = ([[1, 0], [0, 1], [2, 2]], [True, False, True])
        sheet = [("s", ("row", [("name", "t"), ("name", "t")])), ("t", ("one", "a"))]
        right = [[(0, 0), (1, 1), (2, 2)], [(0, 1), (1, 0), (2, 2)]]
        self.assertEqual(sheet_paper("ab", sheet, machine), right)
        for paper, told in (
            (right, True),
            ([[(0, 0), (1, 1), (2, 2)], [(0, 1), (1, 0), (2, 0), (2, 2)]], False),
            ([[(0, 0), (1, 1), (2, 0), (2, 1), (2, 2)], [(0, 1), (1, 0), (2, 0), (2, 2)]], True),
            ([[(0, 0), (0, 2), (1, 0), (1, 1), (2, 2)], right[1]], True),
            ([[(0, 0), (0, 1), (1, 1), (2, 2)], right[1]], False),
            ([right[0][1:], right[1]], False),
            ([right[0][:2], right[1]], False),
            ([right[0], right[1][1:]], False),
            ([right[0], []], False),
            ([right[0][:1] + right[0], right[1]], False),
            ([right[0], right[1] + right[1][-1:]], False),
            ([right[0][::-1], right[1]], False),
            ([right[0], [right[1][1], right[1][0], right[1][2]]], False),
            ([right[0] + [(2, 3)], right[1]], False),
            ([[(-1, 0)] + right[0], right[1]], False),
            ([right[0], right[1] + [(3, 0)]], False),
            ([right[0], right[1] + [(10 ** 30, 10 ** 30)]], False),
            ([right[0], [(0, -2)] + right[1]], False),
            (right[::-1], False),
            (right[:1], False),
            (right + [[]], False),
            (right + right[1:], False),
            ([], False),
        ):
            self.assertIs(check_new(self, is_sheet_paper, "ab", sheet, machine, paper), told, paper)
        self.assertFalse(is_sheet_paper("ab", sheet, (machine[0], [False, True, True]), right))

    def test_made_up_papers(self):
        seen = {True: 0, False: 0}
        for rng, letters, sheet, machine in some_cases(1911, 400):
            paper = slow_pairs(letters, sheet, machine)
            states = len(machine[0])
            for _ in range(rng.choice([0, 1, 1, 2])):
                pairs = rng.choice(paper)
                pair = (rng.randrange(states), rng.randrange(states))
                if pair in pairs:
                    pairs.remove(pair)
                else:
                    pairs.append(pair)
                    pairs.sort()
            told = slow_paper(letters, sheet, machine, paper)
            self.assertIs(is_sheet_paper(letters, sheet, machine, paper), told)
            seen[told] += 1
            if told:
                least = leading_pairs(letters, sheet, machine)
                self.assertTrue(all(set(one) <= set(other) for one, other in zip(least, paper)))
        self.assertGreater(min(seen.values()), 80)

    def test_all_pairs(self):
        for rng, letters, sheet, machine in some_cases(1912, 60):
            states = len(machine[0])
            paper = [[(p, q) for p in range(states) for q in range(states)] for _ in sheet]
            self.assertIs(is_sheet_paper(letters, sheet, machine, paper), all(machine[1]))


class WordsTest(unittest.TestCase):
    def test_against_short_words(self):
        seen = {"outside": 0, "shared": 0, "none": 0}
        for rng, letters, sheet, machine in some_cases(1921, 300):
            words = words_of(sheet, 6)[sheet[0][0]]
            outside = check_new(self, outside_word, letters, sheet, machine)
            wanted = first_in_order(letters, [word for word in words if not taken(letters, machine, word)])
            self.check_word(letters, sheet, outside, wanted)
            self.assertEqual(outside is None, is_sheet_within(letters, sheet, machine))
            shared = check_new(self, shared_word, letters, sheet, machine)
            wanted = first_in_order(letters, [word for word in words if taken(letters, machine, word)])
            self.check_word(letters, sheet, shared, wanted)
            if outside is not None and len(outside) <= 24:
                self.assertTrue(is_in(letters, sheet, outside))
                self.assertFalse(is_taken(letters, machine, outside))
            self.assertEqual(first_word_of(letters, sheet), first_in_order(
                letters, [word for word in (outside, shared) if word is not None]))
            seen["outside"] += outside is not None
            seen["shared"] += shared is not None
            seen["none"] += outside is None
        self.assertGreater(min(seen.values()), 80)

    def check_word(self, letters, sheet, found, wanted):
        if wanted is not None:
            self.assertEqual(found, wanted)
        elif found is not None:
            self.assertGreater(len(found), 6)

    def test_machines_of_one_sided_sheets(self):
        rng = random.Random(1922)
        for _ in range(80):
            sheet = some_sheet(rng, "ab", one_sided=True)
            machine = machine_of_sheet("ab", sheet)
            if len(machine[0]) <= 20:
                self.assertTrue(is_sheet_within("ab", sheet, machine))
                self.assertIsNone(outside_word("ab", sheet, machine))
                self.assertEqual(shared_word("ab", sheet, machine), first_word_of("ab", sheet))
                self.assertIsNone(shared_word("ab", sheet, (machine[0], [not end for end in machine[1]])))

    def test_200_and_201_signs(self):
        eight = ("row", [("row", [("one", "ab")] * 4)] * 2)
        every, nothing = ([[0, 0]], [True]), ([[0, 0]], [False])
        for more in ([], [ONE]):
            sheet = [("s", ("row", [("name", "t")] * 5 + more)), ("t", ("row", [("name", "r")] * 5)), ("r", eight)]
            self.assertIsNone(shared_word("ab", sheet, nothing))
            self.assertIsNone(outside_word("ab", sheet, every))
            for call, machine in ((shared_word, every), (outside_word, nothing)):
                if not more:
                    self.assertEqual(call("ab", sheet, machine), "a" * 200)
                    self.assertEqual(call("ba", sheet, ([[0, 0]], machine[1])), "b" * 200)
                    continue
                with self.assertRaises(BadSize) as caught:
                    call("ab", sheet, machine)
                self.assertEqual(caught.exception.size, 201)

    def test_words_that_are_long_by_the_machine(self):
        # Eleven signs at a time, around 20 states.
        eleven = [("s", ("either", [("row", [("name", "t"), ("name", "s")]), ("name", "t")])),
                  ("t", ("row", [("row", [ONE] * 6), ("row", [ONE] * 5)]))]
        for rest in range(20):
            turns = next(turns for turns in range(1, 21) if 11 * turns % 20 == rest)
            others = [k for k in range(20) if k != rest]
            for call, ends in ((shared_word, [rest]), (outside_word, others)):
                if 11 * turns <= 200:
                    self.assertEqual(call("a", eleven, cycle(20, *ends)), "a" * 11 * turns)
                    continue
                with self.assertRaises(BadSize) as caught:
                    call("a", eleven, cycle(20, *ends))
                self.assertEqual(caught.exception.size, 11 * turns)

    def test_very_long_words(self):
        sheet = [(f"n{k}", ("row", [("name", f"n{k + 1}")] * 3)) for k in range(11)] + [("n11", ("row", [ONE] * 6))]
        for call, end in ((shared_word, 3 ** 11 * 6 % 20), (outside_word, 0)):
            machine = cycle(20, end)
            with self.assertRaises(BadSize) as caught:
                call("a", sheet, machine)
            self.assertEqual(caught.exception.size, 3 ** 11 * 6)


if __name__ == "__main__":
    unittest.main()
