import random
import unittest

from helpers import (
    all_words,
    check_new,
    counter,
    cycle,
    met_pairs,
    some_machine,
    some_machines,
    tail_and_loop,
    taken,
)

from hallofwords.deciding import (
    first_of,
    is_pair_paper,
    is_same,
    is_within,
    pair_paper,
    parted,
    parting_word,
)
from hallofwords.errors import TooMany
from hallofwords.folds import joined, met
from hallofwords.machines import is_taken, least

MOST = {"a": 12, "ab": 8, "ba": 8, "abc": 5}
NONE, ALL = ([[0, 0]], [False]), ([[0, 0]], [True])
ENDS_AB = ([[1, 0], [1, 2], [1, 0]], [False, False, True])


def two_machines(seed, number):
    rng = random.Random(seed)
    for letters, first in some_machines(seed, number, most=3):
        second = some_machine(rng, letters, 3 if letters != "abc" else 2)
        yield letters, first, rng.choice([second, second, joined(letters, [first, second])])


class WordsTest(unittest.TestCase):
    def test_made_up_machines(self):
        for letters, first, second in two_machines(71, 300):
            words = all_words(letters, MOST[letters])
            said = [(word, taken(letters, first, word), taken(letters, second, word)) for word in words]
            one = [word for word, p, q in said if p and not q]
            parting = [word for word, p, q in said if p != q]
            self.assertEqual(first_of(letters, first, second), one[0] if one else None)
            self.assertEqual(parting_word(letters, first, second), parting[0] if parting else None)
            self.assertIs(is_within(letters, first, second), not one)
            self.assertIs(is_same(letters, first, second), not parting)

    def test_examples(self):
        self.assertIs(is_within("ab", NONE, ALL), True)
        self.assertIs(is_within("ab", ALL, NONE), False)
        self.assertIs(is_same("ab", ENDS_AB, ENDS_AB), True)
        self.assertEqual(first_of("ab", ALL, NONE), "")
        self.assertIsNone(first_of("ab", NONE, ALL))
        self.assertEqual(parting_word("ab", NONE, ALL), "")
        self.assertEqual(first_of("ab", ALL, ([[1, 1], [1, 1]], [True, False])), "a")
        self.assertEqual(first_of("ba", ALL, ([[1, 1], [1, 1]], [True, False])), "b")
        self.assertEqual(parting_word("ab", ENDS_AB, NONE), "ab")
        self.assertIs(is_same("a", cycle(6, 0, 3), cycle(3, 0)), True)

    def test_long_words(self):
        # One less than the product, and the sum less 2: the greatest numbers of signs of point 22.
        self.assertEqual(first_of("a", cycle(59, 58), cycle(60, *range(59))), "a" * (59 * 60 - 1))
        self.assertEqual(parting_word("a", counter(57), ([[min(k + 1, 57)] for k in range(58)], [False] * 58)), "a" * 57)
        self.assertIs(is_within("a", cycle(60, 0), cycle(59, *range(59))), True)

    def test_no_too_many(self):
        self.assertEqual(len(pair_paper("a", cycle(60, 0), cycle(59, *range(59)))), 3540)
        self.assertIsNone(parting_word("a", cycle(59, *range(59)), cycle(60, *range(60))))

    def test_nothing_is_modified(self):
        for call in (is_within, is_same, first_of, parting_word, pair_paper):
            check_new(self, call, "ab", ENDS_AB, ALL)
            check_new(self, call, "ab", ENDS_AB, NONE)


class PairPaperTest(unittest.TestCase):
    def test_made_up_machines(self):
        kinds = set()
        for letters, first, second in two_machines(72, 300):
            within = is_within(letters, first, second)
            pairs = met_pairs(letters, first, second)
            self.assertEqual(pair_paper(letters, first, second), pairs if within else None)
            self.assertIs(is_pair_paper(letters, first, second, pairs), within)
            kinds.add(within)
        self.assertEqual(kinds, {True, False})

    def test_states_of_the_machines_as_they_are(self):
        self.assertEqual(pair_paper("a", cycle(2, 0, 1), cycle(3, 0, 1, 2)), [(p, q) for p in (0, 1) for q in (0, 1, 2)])
        self.assertEqual(pair_paper("ab", NONE, ([[2, 2], [0, 0], [2, 2]], [False] * 3)), [(0, 0), (0, 2)])

    def test_papers_of_others(self):
        first, second = ([[0, 0], [1, 1]], [False, False]), ([[0, 0], [1, 1]], [True, False])
        for pairs in ([(0, 0)], [(0, 0), (0, 1)], [(0, 0), (1, 0), (1, 1)], [(0, 0), (0, 1), (1, 0), (1, 1)]):
            self.assertIs(is_pair_paper("ab", first, second, pairs), True)
        second = ([[0, 0], [1, 1]], [True, False])
        first = ([[0, 0], [1, 1]], [True, True])
        self.assertIs(is_pair_paper("ab", first, second, [(0, 0), (1, 0)]), True)
        self.assertIs(is_pair_paper("ab", first, second, [(0, 0), (1, 1)]), False)

    def test_wrong_papers(self):
        first, second = cycle(2, 0), cycle(3, 0, 1, 2)
        right = [(0, 0), (0, 1), (0, 2), (1, 0), (1, 1), (1, 2)]
        self.assertEqual(pair_paper("a", first, second), right)
        for place in range(6):
            self.wrong(right[:place] + right[place + 1:])
            self.wrong(right[:place] + [right[place]] + right[place:])
            for number in (-1, 2, 3, -2, 60, 10 ** 20):
                self.wrong(sorted(right[:place] + right[place + 1:] + [(number, 0)]))
                self.wrong(sorted(right + [(number, 0)]))
            for number in (-1, 3, -3, 10 ** 20):
                self.wrong(sorted(right + [(0, number)]))
        self.wrong([])
        self.wrong([(0, 0)])
        self.wrong(right[::-1])
        self.wrong([right[1], right[0]] + right[2:])
        self.wrong([(1, 0), (1, 1), (1, 2)])
        self.assertIs(is_pair_paper("a", first, cycle(3, 0, 1), right), False)
        self.assertIs(is_pair_paper("a", second, first, [(q, p) for p, q in right]), False)

    def wrong(self, pairs):
        self.assertIs(is_pair_paper("a", cycle(2, 0), cycle(3, 0, 1, 2), pairs), False)

    def test_nothing_is_modified(self):
        check_new(self, is_pair_paper, "ab", NONE, ALL, [(0, 0)])


class PartedTest(unittest.TestCase):
    def greedy(self, letters, machines, words):
        """Point 25, for these words."""
        said = {word: [taken(letters, machine, word) for machine in machines] for word in words}
        together = {(p, q) for q in range(len(machines)) for p in range(q)}
        found = []
        while True:
            parting = {word: {(p, q) for p, q in together if said[word][p] != said[word][q]} for word in words}
            best = max(words, key=lambda word: (len(parting[word]), -words.index(word)))
            if not parting[best]:
                return found, together
            found.append(best)
            together -= parting[best]

    def test_made_up_machines(self):
        rng = random.Random(73)
        for _ in range(150):
            letters = rng.choice(["a", "ab", "ba"])
            machines = [some_machine(rng, letters, 3) for _ in range(rng.randint(2, 6))]
            if rng.random() < 0.5:
                machines.append(rng.choice(machines))
            machines = machines[:6]
            words = all_words(letters, 12 if letters == "a" else 6)
            found, together = self.greedy(letters, machines, words)
            self.assertEqual(parted(letters, machines), found)
            for p, q in together:
                self.assertEqual(least(letters, machines[p]), least(letters, machines[q]))

    def test_examples(self):
        self.assertEqual(parted("ab", [NONE, ALL]), [""])
        self.assertEqual(parted("ab", [NONE, NONE]), [])
        self.assertEqual(parted("ab", [ALL] * 6), [])
        machines = [counter(k) for k in range(5)] + [([[0]], [False])]
        self.assertEqual(parted("a", machines), ["", "a", "aa", "aaa", "aaaa"])
        # The word without signs and "a" part four pairs each.
        self.assertEqual(parted("a", [counter(0), counter(1), cycle(1, 0), counter(2)]), ["", "a"])

    def test_most_pairs_ahead_of_the_first_word(self):
        machines = [self.of({0, 1, 2}), self.of({1}), self.of({1, 2}), self.of(set())]
        self.assertEqual(parted("a", machines), ["aa", "", "a"])

    def of(self, lengths):
        return ([[min(k + 1, 3)] for k in range(4)], [k in lengths for k in range(4)])

    def test_2000_and_2001_tuples(self):
        second = tail_and_loop(0, 55, "c")
        self.assertEqual(len(parted("abc", [tail_and_loop(17, 36, "b"), second])), 1)
        with self.assertRaises(TooMany):
            parted("abc", [tail_and_loop(18, 36, "b"), second])
        with self.assertRaises(TooMany):
            parted("a", [cycle(47, 0), cycle(43, 0)])
        self.assertEqual(parted("a", [cycle(44, 0), cycle(45, 0)]), ["a" * 44])
        with self.assertRaises(TooMany):
            parted("a", [cycle(13, 0), cycle(5, 0), cycle(31, 0), cycle(2, 0)])

    def test_tuples_of_the_least_machines(self):
        # Together 59 * 60 states are met, but the least machines have one and four.
        machines = [cycle(59, *range(59)), cycle(60, *range(0, 60, 4))]
        self.assertEqual(parted("a", machines), ["a"])

    def test_nothing_is_modified(self):
        check_new(self, parted, "ab", [ENDS_AB, ALL, ENDS_AB])


class AgreementTest(unittest.TestCase):
    def test_within_and_what_is_met(self):
        for letters, first, second in two_machines(74, 150):
            both = met(letters, [first, second])
            self.assertIs(is_within(letters, first, second), is_same(letters, both, first))
            self.assertIs(is_within(letters, second, first), both == least(letters, second))
            word = first_of(letters, first, second)
            if word is not None:
                self.assertLess(len(word), len(first[0]) * len(second[0]))
                self.assertEqual((is_taken(letters, first, word), is_taken(letters, second, word)), (True, False))


if __name__ == "__main__":
    unittest.main()
