import random
import unittest

from helpers import all_words, check_new, counter, cycle, some_machines, taken_words

from hallofwords.errors import BadMachine, BadSize
from hallofwords.machines import (
    check_machine,
    first_word,
    is_all,
    is_finite,
    is_none,
    is_taken,
    least,
    run,
    words_upto,
)

# Takes the words that end with "ab".
AB = ([[1, 0], [1, 2], [1, 0]], [False, False, True])


class CheckMachineTest(unittest.TestCase):
    def wrong(self, table, ends, letters="ab"):
        with self.assertRaises(BadMachine, msg=(table, ends)):
            check_machine(letters, (table, ends))

    def right(self, table, ends, letters="ab"):
        self.assertIsNone(check_machine(letters, (table, ends)))

    def test_numbers_of_states(self):
        self.wrong([], [])
        self.right([[0, 0]], [True])
        self.right([[k, 59] for k in range(60)], [False] * 60)
        self.wrong([[0, 0] for _ in range(61)], [False] * 61)

    def test_lengths(self):
        self.wrong([[0]], [True])
        self.wrong([[0, 0, 0]], [True])
        self.wrong([[]], [True])
        self.wrong([[0, 0], [0]], [True, True])
        self.wrong([[0, 0]], [])
        self.wrong([[0, 0]], [True, False])
        self.right([[0, 0, 0]], [True], letters="cab")

    def test_states(self):
        for state in (1, -1, 60, 10 ** 20, True, False, None, "0", 0.0, [0], (0,)):
            self.wrong([[state, 0]], [True])
            self.wrong([[0, state]], [True])
        for state in (2, -1, True, False, "1", None):
            self.wrong([[0, 1], [1, state]], [True, False])

    def test_ends(self):
        for end in (1, 0, None, "True", "", [], 1.0, ()):
            self.wrong([[0, 0]], [end])
            self.wrong([[0, 0], [0, 0]], [True, end])

    def test_rows_that_are_none(self):
        for row in (None, 0, "00", (0, 0)):
            self.wrong([[0, 0], row], [True, True])


class RunTest(unittest.TestCase):
    def test_run(self):
        self.assertEqual([run("ab", AB, word) for word in ("", "a", "ab", "abb", "bab")], [0, 1, 2, 0, 2])
        self.assertEqual([run("ba", AB, word) for word in ("a", "b", "ba")], [0, 1, 2])
        self.assertIs(is_taken("ab", AB, "bbab"), True)
        self.assertIs(is_taken("ab", AB, "bba"), False)
        self.assertIs(is_taken("ab", AB, ""), False)

    def test_long_words(self):
        self.assertEqual(run("a", cycle(7), "a" * 4000), 4000 % 7)
        self.assertIs(is_taken("ab", AB, "ab" * 2000), True)
        self.assertIs(is_taken("ab", AB, "ba" * 2000), False)


class LeastTest(unittest.TestCase):
    def check_least(self, letters, machine):
        """Points 9 and 10: the same words, all reached, none alike, numbered by first words."""
        found = least(letters, machine)
        check_machine(letters, found)
        many, before = len(found[0]), len(machine[0])
        bound = min(many + before, {1: 12, 2: 6, 3: 4}[len(letters)])
        self.assertEqual(taken_words(letters, found, bound), taken_words(letters, machine, bound))
        reached = []
        for word in all_words(letters, min(many - 1, 8)):
            state = run(letters, found, word)
            if state not in reached:
                reached.append(state)
        self.assertEqual(reached, list(range(many)))
        behind = {tuple(taken_from(letters, found, state, word) for word in all_words(letters, min(many, 7)))
                  for state in range(many)}
        self.assertEqual(len(behind), many)
        self.assertEqual(least(letters, found), found)

    def test_examples(self):
        self.assertEqual(least("ab", AB), AB)
        self.assertEqual(least("ab", ([[0, 1], [1, 0]], [True, True])), ([[0, 0]], [True]))
        self.assertEqual(least("ab", ([[0, 0], [1, 1]], [False, True])), ([[0, 0]], [False]))
        self.assertEqual(least("ab", ([[2, 1], [1, 1], [2, 2]], [False, False, True])),
                         ([[1, 2], [1, 1], [2, 2]], [False, True, False]))
        self.assertEqual(least("a", cycle(6, 0, 3)), cycle(3, 0))
        self.assertEqual(least("a", cycle(60, 59)), cycle(60, 59))

    def test_made_up_machines(self):
        for letters, machine in some_machines(21, 300):
            self.check_least(letters, machine)

    def test_renumbered_machines(self):
        rng = random.Random(22)
        for letters, machine in some_machines(23, 200, most=9):
            found = least(letters, machine)
            many = len(machine[0])
            to = [0] + rng.sample(range(1, many), many - 1)
            table, ends = [None] * many, [None] * many
            for state, row in enumerate(machine[0]):
                table[to[state]] = [to[other] for other in row]
                ends[to[state]] = machine[1][state]
            self.assertEqual(least(letters, (table, ends)), found)

    def test_beyond_the_limit(self):
        self.assertEqual(least("a", cycle(70, 0)), cycle(70, 0))
        self.assertEqual(least("a", cycle(70, *range(0, 70, 2))), cycle(2, 0))

    def test_answers_are_new(self):
        check_new(self, least, "ab", AB)
        check_new(self, least, "ab", ([[0, 0]], [True]))


def taken_from(letters, machine, state, word):
    for sign in word:
        state = machine[0][state][letters.index(sign)]
    return machine[1][state]


class WordsTest(unittest.TestCase):
    def test_first_word(self):
        self.assertEqual(first_word("ab", AB), "ab")
        self.assertEqual(first_word("ba", AB), "ba")
        self.assertEqual(first_word("a", cycle(60, 59)), "a" * 59)
        self.assertEqual(first_word("ab", ([[0, 0]], [True])), "")
        self.assertIsNone(first_word("ab", ([[0, 0], [1, 1]], [False, True])))
        for letters, machine in some_machines(24, 300):
            words = taken_words(letters, machine, 4)
            self.assertEqual(first_word(letters, machine), words[0] if words else None)

    def test_words_upto(self):
        self.assertEqual(words_upto("ab", AB, 3), ["ab", "aab", "bab"])
        self.assertEqual(words_upto("ba", AB, 3), ["ba", "bba", "aba"])
        self.assertEqual(words_upto("ab", AB, 0), [])
        self.assertEqual(words_upto("ab", ([[0, 0]], [True]), 0), [""])
        for letters, machine in some_machines(25, 200):
            for length in (0, 1, 4):
                self.assertEqual(words_upto(letters, machine, length), taken_words(letters, machine, length))
        check_new(self, words_upto, "ab", AB, 4)

    def test_lengths_to_200(self):
        self.assertEqual(words_upto("a", ([[0]], [True]), 200), ["a" * k for k in range(201)])
        last = ([[0, 1], [2, 2], [2, 2]], [False, True, False])
        self.assertEqual(words_upto("ab", last, 200), ["a" * k + "b" for k in range(200)])
        self.assertEqual(words_upto("ab", ([[0, 0]], [False]), 200), [])
        self.assertEqual(words_upto("a", counter(200), 200), ["a" * 200])
        self.assertEqual(words_upto("a", counter(200), 199), [])

    def wrong(self, letters, machine, length, size):
        with self.assertRaises(BadSize) as caught:
            words_upto(letters, machine, length)
        self.assertEqual(caught.exception.size, size)

    def test_at_most_2000_words(self):
        whole = ([[0] * 2], [True])
        self.assertEqual(len(words_upto("ab", whole, 9)), 1023)
        self.wrong("ab", whole, 10, 2047)
        self.wrong("ab", whole, 200, 2 ** 201 - 1)
        self.wrong("abcdef", ([[0] * 6], [True]), 200, sum(6 ** k for k in range(201)))
        just = made_by((0, ""), self.behind, lambda thing: thing[0] == 10 or thing == (11, "in"))
        self.assertEqual(len(words_upto("ab", just, 12)), 2000)
        self.assertEqual(len(words_upto("ab", just, 200)), 2000)
        more = (just[0], [True] + just[1][1:])
        self.wrong("ab", more, 12, 2001)
        self.assertEqual(len(words_upto("ab", more, 10)), 1025)

    def behind(self, thing, sign):
        """What a sign leads to, for the 1024 words of 10 signs and 976 words of 11 signs with these beginnings."""
        begins = ["bb", "bab", "baab", "baaab", "baaaaab"]
        self.assertEqual(sum(2 ** (11 - len(begin)) for begin in begins), 976)
        length, told = thing
        if length >= 11:
            return (12, "out")
        if told not in ("in", "out"):
            told = told + sign
            if told in begins:
                told = "in"
            elif not any(begin.startswith(told) for begin in begins):
                told = "out"
        return (length + 1, told)


def made_by(first, step, is_end):
    """The machine over the letters ab of the things that are met from the first one."""
    things = [first]
    table = []
    for thing in things:
        table.append([])
        for sign in "ab":
            reached = step(thing, sign)
            if reached not in things:
                things.append(reached)
            table[-1].append(things.index(reached))
    return table, [is_end(thing) for thing in things]


class KindsTest(unittest.TestCase):
    def test_examples(self):
        for machine, none, whole, finite in (
            (([[0, 0]], [False]), True, False, True),
            (([[0, 0]], [True]), False, True, False),
            (([[0, 0], [1, 1]], [False, True]), True, False, True),
            (([[0, 0], [1, 1]], [True, False]), False, True, False),
            (([[1, 1], [1, 1]], [True, False]), False, False, True),
            (([[1, 1], [1, 1]], [False, True]), False, False, False),
            (([[1, 2], [1, 2], [2, 2]], [False, False, True]), False, False, False),
            (([[1, 2], [3, 3], [2, 2], [3, 3]], [False, True, False, False]), False, False, True),
            (([[1, 1], [0, 0]], [True, True]), False, True, False),
            (AB, False, False, False),
        ):
            self.assertIs(is_none("ab", machine), none, machine)
            self.assertIs(is_all("ab", machine), whole, machine)
            self.assertIs(is_finite("ab", machine), finite, machine)

    def test_made_up_machines(self):
        for letters, machine in some_machines(26, 300, most=4, letters=("a", "ab")):
            words = taken_words(letters, machine, 8)
            self.assertIs(is_none(letters, machine), not words)
            self.assertIs(is_all(letters, machine), len(words) == len(all_words(letters, 8)))
            self.assertIs(is_finite(letters, machine), not any(len(word) >= len(machine[0]) for word in words))

    def test_nothing_is_modified(self):
        for call in (is_none, is_all, is_finite, first_word):
            check_new(self, call, "ab", AB)
        check_new(self, check_machine, "ab", AB)
        check_new(self, run, "ab", AB, "abab")


if __name__ == "__main__":
    unittest.main()
