import itertools
import unittest

from helpers import all_words, check_new, cycle, met_pairs, some_machines

from hallofwords.errors import NotLeast
from hallofwords.leastness import access_words, fault_of, is_fault, is_leastness_paper, parting_words
from hallofwords.machines import least, run

ENDS_AB = ([[1, 0], [1, 2], [1, 0]], [False, False, True])
# State 3 is not reached; 1 and 2 are alike.
FAULTY = ([[1, 2], [0, 0], [0, 0], [0, 3]], [False, True, True, False])


def shown_apart(letters, machine, word, p, q):
    ends = []
    for state in (p, q):
        for sign in word:
            state = machine[0][state][letters.index(sign)]
        ends.append(machine[1][state])
    return ends[0] != ends[1]


def slow_parting_words(letters, machine):
    found = []
    words = all_words(letters, max(len(machine[0]) - 2, 0))
    for p, q in itertools.combinations(range(len(machine[0])), 2):
        if not any(shown_apart(letters, machine, word, p, q) for word in found):
            found.append(next(word for word in words if shown_apart(letters, machine, word, p, q)))
    return found


def slow_fault(letters, machine):
    """Points 9 and 24, by words of fewer signs than there are states."""
    many = len(machine[0])
    words = all_words(letters, many - 1)
    reached = sorted({run(letters, machine, word) for word in words})
    for state in range(many):
        if state not in reached:
            return ("unreached", state, reached)
    for p, q in itertools.combinations(range(many), 2):
        if not any(shown_apart(letters, machine, word, p, q) for word in words):
            return ("alike", p, q, met_pairs(letters, machine, machine, (p, q)))
    return None


class AccessTest(unittest.TestCase):
    def test_examples(self):
        self.assertEqual(access_words("ab", ENDS_AB), ["", "a", "ab"])
        self.assertEqual(access_words("ba", ENDS_AB), ["", "b", "ba"])
        self.assertEqual(access_words("ab", FAULTY), ["", "a", "b", None])
        self.assertEqual(access_words("a", cycle(60, 0)), ["a" * k for k in range(60)])
        self.assertEqual(access_words("ab", ([[2, 0], [0, 0], [0, 1]], [True] * 3)), ["", "ab", "a"])

    def test_made_up_machines(self):
        for letters, machine in some_machines(81, 200, most=5):
            words = all_words(letters, 4)
            first = [next((word for word in words if run(letters, machine, word) == state), None)
                     for state in range(len(machine[0]))]
            self.assertEqual(access_words(letters, machine), first)


class PartingTest(unittest.TestCase):
    def test_examples(self):
        self.assertEqual(parting_words("ab", ([[0, 0]], [True])), [])
        self.assertEqual(parting_words("ab", ENDS_AB), ["b", ""])
        self.assertEqual(parting_words("a", cycle(4, 3)), ["aa", "a", ""])
        self.assertEqual(parting_words("a", cycle(4, 0)), ["", "aa", "a"])

    def test_made_up_machines(self):
        for letters, machine in some_machines(82, 300, most=5):
            if slow_fault(letters, machine) is None:
                words = parting_words(letters, machine)
                self.assertEqual(words, slow_parting_words(letters, machine))
                self.assertLessEqual(len(words), len(machine[0]) - 1)
            else:
                with self.assertRaises(NotLeast):
                    parting_words(letters, machine)

    def test_any_numbers_of_the_states(self):
        # Not numbered in the order of the first words, and so no least machine, but no fault of point 23.
        machine = ([[2, 0], [2, 0], [2, 1]], [False, True, False])
        self.assertNotEqual(least("ab", machine), machine)
        self.assertEqual(parting_words("ab", machine), ["", "b"])
        self.assertIsNone(fault_of("ab", machine))

    def test_not_least(self):
        for machine in (FAULTY, ([[0, 0], [1, 1]], [True, False]), ([[1, 1], [0, 0]], [True, True])):
            with self.assertRaises(NotLeast):
                parting_words("ab", machine)

    def test_sixty_states(self):
        words = parting_words("a", cycle(60, 59))
        self.assertEqual(words, ["a" * k for k in range(58, -1, -1)])
        self.assertIs(is_leastness_paper("a", cycle(60, 59), access_words("a", cycle(60, 59)), words), True)


class PaperTest(unittest.TestCase):
    def right(self, access, partings, machine=ENDS_AB, letters="ab"):
        self.assertIs(is_leastness_paper(letters, machine, access, partings), True)

    def wrong(self, access, partings, machine=ENDS_AB, letters="ab"):
        self.assertIs(is_leastness_paper(letters, machine, access, partings), False)

    def test_right_papers(self):
        self.right(["", "a", "ab"], ["b", ""])
        self.right(["bb", "aaa", "abab"], ["", "b"])
        self.right(["", "a", "ab"], ["b", "b", "aaaa", "", "bb"])
        self.right(["b" * 200, "b" * 199 + "a", "b" * 198 + "ab"], ["b", ""])
        self.right(["ba"], [], machine=([[0, 0]], [False]))
        self.right([""], ["a", "b"], machine=([[0, 0]], [False]))

    def test_wrong_access(self):
        for access in (["", "a"], ["", "a", "ab", "ab"], [], ["a", "", "ab"], ["", "ab", "a"], ["", "a", "a"],
                       ["", "", "ab"], ["", "a", ""]):
            self.wrong(access, ["b", ""])
        self.wrong([], [], machine=([[0, 0]], [False]))
        self.wrong(["", "a"], [], machine=([[0, 0]], [False]))

    def test_wrong_partings(self):
        for partings in ([], ["b"], [""], ["", ""], ["b", "bb", "ab"], ["a", ""]):
            self.wrong(["", "a", "ab"], partings)

    def test_faulty_machines(self):
        self.wrong(["", "a", "b", "a"], ["", "a", "b", "aa"], machine=FAULTY)
        self.wrong(["", "a"], ["", "a", "b"], machine=([[1, 1], [0, 0]], [True, True]))

    def test_made_up_machines(self):
        seen = set()
        for letters, machine in some_machines(83, 300, most=5):
            fine = slow_fault(letters, machine) is None
            access = access_words(letters, machine)
            words = all_words(letters, 3)
            if None not in access:
                self.assertIs(is_leastness_paper(letters, machine, access, words), fine)
                seen.add(fine)
                if fine:
                    partings = parting_words(letters, machine)
                    self.right(access, partings, machine, letters)
                    for place in range(len(access)):
                        self.wrong(access[:place] + access[place + 1:], partings, machine, letters)
        self.assertEqual(seen, {True, False})


class FaultTest(unittest.TestCase):
    def test_examples(self):
        self.assertIsNone(fault_of("ab", ENDS_AB))
        self.assertEqual(fault_of("ab", FAULTY), ("unreached", 3, [0, 1, 2]))
        self.assertEqual(fault_of("ab", ([[2, 2], [0, 0], [2, 0]], [True, True, False])), ("unreached", 1, [0, 2]))
        self.assertEqual(fault_of("ab", ([[1, 1], [0, 0]], [True, True])), ("alike", 0, 1, [(0, 1), (1, 0)]))
        self.assertEqual(fault_of("a", cycle(6, 0, 3)), ("alike", 0, 3, [(k, (k + 3) % 6) for k in range(6)]))

    def test_made_up_machines(self):
        kinds = set()
        for letters, machine in some_machines(84, 400, most=5):
            fault = fault_of(letters, machine)
            self.assertEqual(fault, slow_fault(letters, machine))
            if fault is not None:
                self.assertIs(is_fault(letters, machine, fault), True)
            kinds.add(fault and fault[0])
        self.assertEqual(kinds, {None, "unreached", "alike"})

    def check(self, machine, fault, answer, letters="ab"):
        self.assertIs(is_fault(letters, machine, fault), answer, fault)

    def test_unreached(self):
        self.check(FAULTY, ("unreached", 3, [0, 1, 2]), True)
        for state in (0, 1, 2, 4, -1, -4, 10 ** 20):
            self.check(FAULTY, ("unreached", state, [0, 1, 2]), False)
        for states in ([], [0], [0, 1], [1, 2], [0, 1, 2, 3], [0, 1, 2, 2], [0, 0, 1, 2], [0, 2, 1], [2, 1, 0],
                       [0, 1, 2, 4], [-1, 0, 1, 2], [0, 1, 2, 10 ** 20]):
            self.check(FAULTY, ("unreached", 3, states), False)

    def test_unreached_with_more_states_than_are_reached(self):
        machine = ([[0, 0], [1, 0], [2, 1]], [True, False, True])
        self.check(machine, ("unreached", 2, [0, 1]), True)
        self.check(machine, ("unreached", 2, [0]), True)
        self.check(machine, ("unreached", 1, [0]), True)
        self.check(machine, ("unreached", 1, [0, 2]), False)

    def test_alike(self):
        machine = ([[1, 2], [0, 0], [0, 0]], [False, True, True])
        right = [(0, 0), (1, 1), (1, 2), (2, 2)]
        self.check(machine, ("alike", 1, 2, right), True)
        self.check(machine, ("alike", 2, 1, [(0, 0), (1, 1), (2, 1), (2, 2)]), True)
        self.check(machine, ("alike", 1, 2, sorted(right + [(2, 1)])), True)
        self.check(machine, ("alike", 2, 1, sorted(right + [(2, 1)])), True)
        for p, q in ((1, 1), (0, 0), (2, 2), (2, 1), (0, 1), (3, 4), (-2, -1), (1, 3), (-1, 1)):
            self.check(machine, ("alike", p, q, right), False)
        for place in range(4):
            self.check(machine, ("alike", 1, 2, right[:place] + right[place + 1:]), False)
            self.check(machine, ("alike", 1, 2, right[:place] + [right[place]] + right[place:]), False)
            for number in (-1, 3, 10 ** 20):
                self.check(machine, ("alike", 1, 2, sorted(right + [(number, 0)])), False)
                self.check(machine, ("alike", 1, 2, sorted(right + [(0, number)])), False)
        self.check(machine, ("alike", 1, 2, right[::-1]), False)
        self.check(machine, ("alike", 1, 2, []), False)
        self.check(machine, ("alike", 1, 2, sorted(right + [(0, 1)])), False)

    def test_numbers_that_are_no_states_in_the_papers_first_place(self):
        machine = ([[1, 2], [0, 0], [0, 0]], [False, True, True])
        self.check(machine, ("alike", -1, -2, [(-1, -2)]), False)
        self.check(machine, ("alike", 3, 4, [(3, 4)]), False)

    def test_not_alike(self):
        self.check(ENDS_AB, ("alike", 0, 1, met_pairs("ab", ENDS_AB, ENDS_AB, (0, 1))), False)
        self.check(ENDS_AB, ("alike", 0, 2, met_pairs("ab", ENDS_AB, ENDS_AB, (0, 2))), False)

    def test_alike_states_may_be_unreached(self):
        self.check(([[0, 0], [1, 1]], [True, True]), ("alike", 0, 1, [(0, 1)]), True)
        self.check(([[0, 0], [1, 1]], [True, True]), ("unreached", 1, [0]), True)

    def test_nothing_is_modified(self):
        check_new(self, access_words, "ab", ENDS_AB)
        check_new(self, parting_words, "ab", ENDS_AB)
        check_new(self, is_leastness_paper, "ab", ENDS_AB, ["", "a", "ab"], ["b", ""])
        for machine in (FAULTY, ENDS_AB, ([[1, 1], [0, 0]], [True, True])):
            check_new(self, fault_of, "ab", machine)
        check_new(self, is_fault, "ab", FAULTY, ("unreached", 3, [0, 1, 2]))
        check_new(self, is_fault, "ab", FAULTY, ("alike", 1, 2, [(0, 0), (1, 1), (1, 2), (2, 2)]))


if __name__ == "__main__":
    unittest.main()
