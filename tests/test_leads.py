import random
import unittest

from helpers import all_words, check_new, cycle, some_machine, taken
from turning import answers, some_turner

from hallofwords.deciding import first_of, is_pair_paper
from hallofwords.errors import TooMany
from hallofwords.folds import denied
from hallofwords.leads import first_astray, is_astray, is_lead_paper, lead_paper
from hallofwords.making import machine_of, word_machine
from hallofwords.near import around
from hallofwords.turners import images, one_move, same_of

EVERY = ([[0, 0]], [True])
NOTHING = ([[0, 0]], [False])
MOST = {"a": 6, "ab": 4, "ba": 4}


def some_leads(seed, number):
    rng = random.Random(seed)
    for _ in range(number):
        letters = rng.choice(["a", "ab", "ba"])
        second = some_machine(rng, letters, 4)
        if rng.random() < 0.6:
            second = (second[0], [rng.random() < 0.85 for _ in second[1]])
        yield letters, some_machine(rng, letters, 3), some_turner(rng, letters, states=2, ends=(0, 1, 1)), second


def met_triples(letters, first, turner, second):
    found = [(0, 0, 0)]
    for p, q, s in found:
        for at in range(len(letters)):
            for word, behind in turner[0][q][at]:
                triple = (first[0][p][at], behind, led(letters, second, s, word))
                if triple not in found:
                    found.append(triple)
    return found


def led(letters, machine, state, word):
    for sign in word:
        state = machine[0][state][letters.index(sign)]
    return state


def slow_right(letters, first, turner, second, triples):
    """Whether this is a lead paper, straight from point 85."""
    if triples != sorted(set(triples)) or (0, 0, 0) not in triples:
        return False
    for p, q, s in triples:
        if not (0 <= p < len(first[0]) and 0 <= q < len(turner[0]) and 0 <= s < len(second[0])):
            return False
        if first[1][p] and any(not second[1][led(letters, second, s, end)] for end in turner[1][q]):
            return False
        for at in range(len(letters)):
            for word, behind in turner[0][q][at]:
                if (first[0][p][at], behind, led(letters, second, s, word)) not in triples:
                    return False
    return True


def rings(p, q, s):
    """A machine, a turner and a machine with so many states that go around: p * q * s triples if no two share a divisor."""
    first, second = cycle(p, 0), cycle(s, 0)
    return first, ([[[("a", (k + 1) % q)]] for k in range(q)], [[] for _ in range(q)]), second


class AstrayTest(unittest.TestCase):
    def test_made_up_ones(self):
        seen = {True: 0, False: 0}
        for letters, first, turner, second in some_leads(641, 400):
            told = first_astray(letters, first, turner, second)
            wrong = [(word, answer) for word in all_words(letters, MOST[letters]) if taken(letters, first, word)
                     for answer in answers(letters, turner, word) if not taken(letters, second, answer)]
            seen[told is None] += 1
            if wrong:
                self.assertEqual(told, wrong[0])
            elif told is not None:
                self.assertGreater(len(told[0]), MOST[letters])
            if told is not None:
                self.assertIs(is_astray(letters, first, turner, second, *told), True)
                self.assertLess(len(told[0]), len(met_triples(letters, first, turner, second)))
                self.assertIsNone(lead_paper(letters, first, turner, second))
        self.assertGreater(min(seen.values()), 50)

    def test_examples(self):
        ab = word_machine("ab", ["ab"])
        self.assertIsNone(first_astray("ab", ab, one_move("ab"), around("ab", ab, 1)))
        self.assertEqual(first_astray("ab", ab, one_move("ab"), ab), ("ab", "a"))
        self.assertEqual(first_astray("ba", ab, one_move("ba"), ab)[0], "ba")
        self.assertEqual(first_astray("ab", EVERY, one_move("ab"), word_machine("ab", ["", "a"])), ("", "b"))
        self.assertIsNone(first_astray("ab", NOTHING, one_move("ab"), NOTHING))
        self.assertIsNone(first_astray("ab", EVERY, ([[[], []]], [[]]), NOTHING))
        self.assertEqual(first_astray("ab", EVERY, same_of("ab", EVERY), denied("ab", word_machine("ab", ["bab"]))),
                         ("bab", "bab"))

    def test_the_first_answer_that_is_not_taken(self):
        turner = ([[[("b", 0), ("a", 0), ("", 0)], []]], [["", "ab"]])
        takes = machine_of("ab", ("either", [("times", ("one", "a"), 0, None), ("row", [("one", "ab"), ("one", "b")])]))
        self.assertEqual(first_astray("ab", word_machine("ab", ["aa", "aaa"]), turner, takes), ("aa", "b"))
        # Of one length the earlier letter; a shorter one ahead.
        self.assertEqual(first_astray("ab", word_machine("ab", ["aa"]), turner, word_machine("ab", ["", "a", "b", "ab"])),
                         ("aa", "aa"))
        self.assertEqual(first_astray("ba", word_machine("ba", ["bb"]), ([[[("b", 0), ("a", 0), ("", 0)], []]], [["", "ab"]]),
                                      word_machine("ba", ["", "a", "b", "ab"])), ("bb", "bb"))

    def test_against_images(self):
        for letters, first, turner, second in some_leads(642, 60):
            whole = images(letters, turner, of=first)
            self.assertIs(first_astray(letters, first, turner, second) is None, first_of(letters, whole, second) is None)

    def test_is_astray(self):
        for letters, first, turner, second in some_leads(643, 60):
            for word in all_words(letters, 2):
                for answer in all_words(letters, 3):
                    right = (taken(letters, first, word) and answer in answers(letters, turner, word)
                             and not taken(letters, second, answer))
                    self.assertIs(is_astray(letters, first, turner, second, word, answer), right)

    def test_long_words_and_answers(self):
        turner = ([[[("a" * 12, 0)]]], [["a" * 12]])
        first, second = cycle(50, 49), cycle(2, 1)
        self.assertEqual(first_astray("a", first, turner, second), ("a" * 49, "a" * 600))
        self.assertIs(is_astray("a", first, turner, second, "a" * 1999, "a" * 24000), True)
        self.assertIs(is_astray("a", first, turner, second, "a" * 1999, "a" * 23999), False)
        self.assertIs(is_astray("a", first, turner, second, "a" * 1999, "a" * 24012), False)
        self.assertIs(is_astray("a", cycle(1, 0), turner, second, "a" * 2000, "a" * 24012), True)
        self.assertIs(is_astray("a", first, turner, second, "a" * 2000, "a" * 24012), False)
        first, turner, second = rings(53, 36, 1)
        turner = (turner[0], [[] for _ in range(35)] + [["a"]])
        first = (first[0], [k == 52 for k in range(53)])
        self.assertEqual(first_astray("a", first, turner, ([[0]], [False])), ("a" * 1907, "a" * 1908))


class PaperTest(unittest.TestCase):
    def test_made_up_ones(self):
        many = 0
        for letters, first, turner, second in some_leads(644, 300):
            paper = lead_paper(letters, first, turner, second)
            if first_astray(letters, first, turner, second) is None:
                many += 1
                self.assertEqual(paper, sorted(met_triples(letters, first, turner, second)))
                self.assertIs(is_lead_paper(letters, first, turner, second, paper), True)
            else:
                self.assertIsNone(paper)
                every = [(p, q, s) for p in range(len(first[0])) for q in range(len(turner[0])) for s in range(len(second[0]))]
                self.assertIs(is_lead_paper(letters, first, turner, second, every), False)
                found = sorted(met_triples(letters, first, turner, second))
                self.assertIs(is_lead_paper(letters, first, turner, second, found), False)
        self.assertGreater(many, 60)

    def test_changed_papers(self):
        rng = random.Random(645)
        seen = {True: 0, False: 0}
        for letters, first, turner, second in some_leads(646, 250):
            paper = lead_paper(letters, first, turner, second)
            if paper is None:
                continue
            for k in range(len(paper)):
                self.assertIs(is_lead_paper(letters, first, turner, second, paper[:k] + paper[k + 1:]), False)
                self.assertIs(is_lead_paper(letters, first, turner, second, paper[:k + 1] + paper[k:]), False)
            if len(paper) > 1:
                self.assertIs(is_lead_paper(letters, first, turner, second, paper[::-1]), False)
            for at, size in enumerate((len(first[0]), len(turner[0]), len(second[0]))):
                for number in (-1, size, 10 ** 30, -10 ** 30):
                    odd = tuple(number if k == at else 0 for k in range(3))
                    self.assertIs(is_lead_paper(letters, first, turner, second, sorted(paper + [odd])), False)
            every = [(p, q, s) for p in range(len(first[0])) for q in range(len(turner[0])) for s in range(len(second[0]))]
            for _ in range(10):
                more = sorted(set(paper + [triple for triple in every if rng.random() < rng.choice([0.2, 0.5, 1])]))
                right = slow_right(letters, first, turner, second, more)
                seen[right] += 1
                self.assertIs(is_lead_paper(letters, first, turner, second, more), right)
        self.assertGreater(min(seen.values()), 50)

    def test_numbers_that_are_no_states(self):
        """The last states lead nowhere else, so that nothing else is wrong with triples in which they stand."""
        first, second = ([[0], [1]], [False, False]), ([[0], [1]], [False, False])
        turner = ([[[("a", 0)]], [[]]], [[], []])
        for triple in ((-1, 1, 0), (1, -1, 0), (0, 1, -1), (2, 1, 0), (0, 2, 0), (0, 1, 2)):
            self.assertIs(is_lead_paper("a", first, turner, second, sorted([(0, 0, 0), triple])), False)
        for triple in ((1, 1, 0), (0, 1, 0), (1, 1, 1)):
            self.assertIs(is_lead_paper("a", first, turner, second, [(0, 0, 0), triple]), True)

    def test_pairs_beside_the_turner_of_all_words(self):
        """The turner that changes nothing leads one machine into another one if it is within it."""
        same = same_of("ab", EVERY)
        rng = random.Random(647)
        for _ in range(60):
            first, second = some_machine(rng, "ab", 3), some_machine(rng, "ab", 3)
            paper = lead_paper("ab", first, same, second)
            self.assertIs(paper is None, first_of("ab", first, second) is not None)
            if paper is not None:
                self.assertIs(is_pair_paper("ab", first, second, [(p, s) for p, _, s in paper]), True)

    def test_two_thousand_triples(self):
        for sizes, many in (((25, 16, 5), 400), ((27, 2, 37), 1998), ((40, 1, 49), 1960), ((29, 23, 3), 2001),
                            ((60, 36, 1), 180), ((59, 34, 1), 2006)):
            first, turner, second = rings(*sizes)
            met = len(met_triples("a", first, turner, second))
            self.assertEqual(met, many)
            calls = (lambda: lead_paper("a", first, turner, second), lambda: first_astray("a", first, turner, second))
            if met > 2000:
                for call in calls:
                    with self.assertRaises(TooMany):
                        call()
            else:
                self.assertEqual(len(calls[0]()), met)
                self.assertIsNone(calls[1]())
        # Just 2000, and a few more: whatever is read, each state of the second machine can be come to.
        loose = ([[[("", 0), ("a", 0)]]], [[""]])
        self.assertEqual(len(lead_paper("a", cycle(40, 0), loose, cycle(50, *range(50)))), 2000)
        self.assertEqual(first_astray("a", cycle(40, 39), loose, cycle(50, 0)), ("a" * 39, "a"))
        with self.assertRaises(TooMany):
            lead_paper("a", cycle(41, 0), loose, cycle(49, *range(49)))

    def test_too_many_ahead_of_all_else(self):
        """The word without signs is astray, but more than 2000 triples are met."""
        first, turner, second = rings(29, 23, 3)
        turner = (turner[0], [["a"] for _ in turner[1]])
        for call in (first_astray, lead_paper):
            with self.assertRaises(TooMany):
                call("a", first, turner, second)
        self.assertIs(is_astray("a", first, turner, second, "", "a"), True)
        turner = (turner[0], [[] for _ in turner[1]])
        every = sorted(met_triples("a", first, turner, second))
        self.assertIs(is_lead_paper("a", first, turner, second, every), True)

    def test_machines_are_taken_as_they_are_handed_in(self):
        first = ([[1, 1], [0, 0]], [True, True])
        second = ([[0, 1], [1, 0]], [True, True])
        self.assertEqual(lead_paper("ab", first, same_of("ab", EVERY), second), [(p, 0, s) for p in range(2) for s in range(2)])

    def test_nothing_modified(self):
        first, second = word_machine("ab", ["ab"]), around("ab", word_machine("ab", ["ab"]), 1)
        paper = check_new(self, lead_paper, "ab", first, one_move("ab"), second)
        check_new(self, is_lead_paper, "ab", first, one_move("ab"), second, paper)
        check_new(self, first_astray, "ab", first, one_move("ab"), first)
        check_new(self, is_astray, "ab", first, one_move("ab"), first, "ab", "a")


if __name__ == "__main__":
    unittest.main()
