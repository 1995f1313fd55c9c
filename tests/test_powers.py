import random
import unittest

from helpers import all_words, check_new, counter, cycle, some_machines, some_rules

from hallofwords.errors import HallError, TooMany
from hallofwords.machines import least
from hallofwords.making import machine_of
from hallofwords.powers import is_rest_paper, is_ring, members, rest_paper, ring_of, turning_of


def turned(letters, machine, word):
    """What the word does to the states, straight from point 137."""
    found = []
    for state in range(len(machine[0])):
        for sign in word:
            state = machine[0][state][letters.index(sign)]
        found.append(state)
    return found


def slow_members(letters, machine, most=400):
    """The turnings with the first words that have them, None if there are more than so many."""
    m = least(letters, machine)
    found = {tuple(range(len(m[0]))): ""}
    for turning in found_in_turn(found):
        for at, sign in enumerate(letters):
            behind = tuple(m[0][state][at] for state in turning)
            found.setdefault(behind, found[turning] + sign)
        if len(found) > most:
            return None
    return found


def found_in_turn(found):
    place = 0
    while place < len(found):
        yield list(found)[place]
        place += 1


def slow_ring(turning):
    """The first ring that the turning leads around, or None."""
    for first in range(len(turning)):
        ring = [first]
        while turning[ring[-1]] not in ring:
            ring.append(turning[ring[-1]])
        if len(ring) > 1 and turning[ring[-1]] == first:
            return ring
    return None


def turning_machine(many):
    """A machine over abc whose letters turn the states about in all ways: by a around, by b the first two, by c one."""
    by_c = [0] + list(range(many))[1:-1] + [0]
    table = [[(k + 1) % many, {0: 1, 1: 0}.get(k, k), by_c[k]] for k in range(many)]
    return (table, [k == 0 for k in range(many)])


class TurningTest(unittest.TestCase):
    def test_made_up_words(self):
        rng = random.Random(2001)
        for letters, machine in some_machines(2002, 100):
            m = least(letters, machine)
            for word in all_words(letters, 2) + ["".join(rng.choice(letters) for _ in range(2000))]:
                self.assertEqual(check_new(self, turning_of, letters, machine, word), turned(letters, m, word))

    def test_the_least_machine_is_meant(self):
        self.assertEqual(turning_of("a", ([[1], [2], [3], [0]], [True, False, True, False]), "a"), [1, 0])
        self.assertEqual(turning_of("a", cycle(5, 0), ""), [0, 1, 2, 3, 4])
        self.assertEqual(turning_of("a", cycle(5, 0), "a" * 1999), [4, 0, 1, 2, 3])


class MembersTest(unittest.TestCase):
    def test_in_order(self):
        for letters, machine in some_machines(2011, 120, most=4):
            slow = slow_members(letters, machine)
            words = sorted(slow.values(), key=lambda word: (len(word), [letters.index(sign) for sign in word]))
            m = least(letters, machine)
            found = check_new(self, members, letters, machine)
            self.assertEqual(found, [turned(letters, m, word) for word in words])
            self.assertEqual(found[0], list(range(len(m[0]))))
            self.assertEqual(len(found), len(slow))
            for word in all_words(letters, 4):
                self.assertIn(turned(letters, m, word), found)

    def test_numbers(self):
        self.assertEqual(len(members("abc", turning_machine(4))), 4 ** 4)
        with self.assertRaises(TooMany):
            members("abc", turning_machine(5))
        self.assertEqual(len(members("a", cycle(60, 0))), 60)
        self.assertEqual(members("ab", ([[0, 0]], [True])), [[0]])

    def test_2000_members_and_2001(self):
        for sizes, many in (((10, 9, 20), 2000), ((36, 18, 3), 2001), ((20, 20, 20), 8420)):
            machine = three_rings(*sizes)
            self.assertEqual(len(least("abcd", machine)[0]), sum(sizes))
            p, q, r = sizes
            # Each of a, b and c turns a ring of its own; behind one d two rings are left to turn, behind two d one.
            self.assertEqual(p * q * r + q * r + r, many)
            if many == 2000:
                self.assertEqual(len(members("abcd", machine)), 2000)
                word, ring = ring_of("abcd", machine)
                self.assertEqual(word, "a")
                self.assertEqual(len(ring), p)
                self.assertIsNone(rest_paper("abcd", machine))
                continue
            for call in (members, ring_of, rest_paper):
                with self.assertRaises(TooMany):
                    call("abcd", machine)


def three_rings(p, q, r):
    """Three rings of so many states, turned by a, b and c; by d all states of a ring go on to the next one."""
    table = [[(k + 1) % p, k, k, p] for k in range(p)]
    table += [[p + k, p + (k + 1) % q, p + k, p + q] for k in range(q)]
    table += [[p + q + k, p + q + k, p + q + (k + 1) % r, p + q] for k in range(r)]
    return (table, [k in (0, p, p + q) for k in range(p + q + r)])


class RingTest(unittest.TestCase):
    def test_first_rings(self):
        seen = {True: 0, False: 0}
        for letters, machine in some_machines(2021, 250, most=4):
            slow = slow_members(letters, machine)
            wanted = None
            for turning, word in sorted(slow.items(), key=lambda item: (
                    len(item[1]), [letters.index(sign) for sign in item[1]])):
                if slow_ring(turning) is not None:
                    wanted = (word, slow_ring(turning))
                    break
            found = check_new(self, ring_of, letters, machine)
            self.assertEqual(found, wanted)
            paper = check_new(self, rest_paper, letters, machine)
            self.assertEqual(paper, None if wanted else sorted(list(turning) for turning in slow))
            seen[wanted is None] += 1
            if wanted is not None:
                self.assertIs(check_new(self, is_ring, letters, machine, wanted[0], wanted[1]), True)
                self.assertLess(len(wanted[0]), len(slow))
            else:
                self.assertIs(check_new(self, is_rest_paper, letters, machine, paper), True)
        self.assertGreater(min(seen.values()), 40)

    def test_examples(self):
        self.assertEqual(ring_of("a", cycle(4, 0)), ("a", [0, 1, 2, 3]))
        self.assertIsNone(ring_of("a", counter(5)))
        # By a state 0 leads into a ring, in which it is not; of two rings that with the least state is told.
        machine = ([[1, 3], [2, 5], [1, 5], [4, 1], [3, 1], [5, 5]], [False, True, False, False, True, False])
        self.assertEqual(least("ab", machine)[0], [[1, 2], [3, 4], [5, 1], [1, 4], [4, 4], [2, 1]])
        self.assertEqual(ring_of("ab", machine), ("a", [1, 3]))
        self.assertTrue(is_ring("ab", machine, "a", [2, 5]))
        self.assertEqual(rest_paper("a", counter(1)), [[0, 1, 2], [1, 2, 2], [2, 2, 2]])

    def test_lists_that_are_no_rings(self):
        for word, states, told in (
            ("a", [0, 1, 2, 3], True),
            ("a", [2, 3, 0, 1], True),
            ("aaaaa", [0, 1, 2, 3], True),
            ("a" * 1997, [0, 1, 2, 3], True),
            ("a" * 1998, [0, 2], True),
            ("a" * 2001, [0, 1, 2, 3], False),
            ("a" * 2000, [0], False),
            ("aa", [0, 2], True),
            ("aa", [3, 1], True),
            ("aaa", [3, 2, 1, 0], True),
            ("a", [0, 1, 2], False),
            ("a", [1, 2, 3], False),
            ("a", [0, 1, 3, 2], False),
            ("a", [3, 2, 1, 0], False),
            ("aaa", [0, 1, 2, 3], False),
            ("aa", [0, 1, 2, 3], False),
            ("aa", [0, 2, 0, 2], False),
            ("a", [0, 1, 2, 3, 0, 1, 2, 3], False),
            ("aa", [0, 2, 1, 3], False),
            ("aaaa", [0], False),
            ("", [0], False),
            ("", [], False),
            ("a", [], False),
            ("", [0, 1], False),
            ("aa", [0, 2, 4], False),
            ("aa", [-2, 0], False),
            ("aa", [4, 6], False),
            ("aa", [0, 10 ** 30], False),
            ("aa", [-10 ** 30, 2], False),
            ("aaaa", [0, 0], False),
        ):
            self.assertIs(check_new(self, is_ring, "a", cycle(4, 0), word, states), told, (word, states))

    def test_the_states_of_the_least_machine(self):
        self.assertTrue(is_ring("a", cycle(3, 0), "a" * 2000, [0, 2, 1]))
        self.assertFalse(is_ring("a", cycle(3, 0), "a" * 2003, [0, 2, 1]))
        # Four states are handed in, but there are two that differ.
        machine = cycle(4, 0, 2)
        self.assertEqual(ring_of("a", machine), ("a", [0, 1]))
        self.assertTrue(is_ring("a", machine, "a", [1, 0]))
        self.assertFalse(is_ring("a", machine, "a", [0, 1, 2, 3]))
        self.assertEqual(members("a", machine), [[0, 1], [1, 0]])

    def test_no_limit_for_judges(self):
        machine = three_rings(20, 20, 20)
        with self.assertRaises(TooMany):
            ring_of("abcd", machine)
        word = "a" * 7
        ring = [7 * k % 20 for k in range(20)]
        lesser = least("abcd", machine)
        states = [turned("abcd", lesser, "a" * k)[0] for k in ring]
        self.assertTrue(is_ring("abcd", machine, word, states))
        self.assertFalse(is_ring("abcd", machine, word, states[::-1]))
        self.assertFalse(is_rest_paper("abcd", machine, [list(range(60))]))

    def test_some_number_of_turns(self):
        # A machine rests if each word, told often enough, does what it does told once more.
        for letters, machine in some_machines(2022, 80, most=4):
            m = least(letters, machine)
            rests = True
            for turning, word in slow_members(letters, machine).items():
                rests = rests and turned(letters, m, word * 30) == turned(letters, m, word * 31)
            self.assertIs(ring_of(letters, machine) is None, rests)

    def test_rules_without_endless_repeats(self):
        tried = 0
        for letters, rule in some_rules(2023, 250):
            if "None" not in repr(rule):
                try:
                    self.assertIsNone(ring_of(letters, machine_of(letters, rule)))
                    tried += 1
                except HallError:
                    pass
        self.assertGreater(tried, 60)


class RestPaperTest(unittest.TestCase):
    def test_conditions(self):
        machine = counter(1)
        right = [[0, 1, 2], [1, 2, 2], [2, 2, 2]]
        self.assertEqual(rest_paper("a", machine), right)
        for rows, told in (
            (right, True),
            ([[0, 0, 0], [0, 1, 2], [1, 1, 1], [1, 2, 2], [2, 2, 2]], True),
            ([[0, 1, 2], [0, 2, 2], [1, 2, 2], [2, 2, 2]], True),
            ([[0, 0, 1], [0, 1, 2], [1, 2, 2], [2, 2, 2]], False),
            ([[0, 1, 2], [1, 1, 2], [1, 2, 2], [2, 2, 2]], True),
            ([[0, 1, 2], [1, 0, 2], [1, 2, 2], [2, 1, 2], [2, 2, 2]], False),
            ([[0, 1, 2], [1, 2, 2], [2, 1, 2], [2, 2, 2]], True),
            (right[1:], False),
            (right[:2], False),
            (right[::2], False),
            (right[::-1], False),
            (right[:1] + right, False),
            (right + right[2:], False),
            ([right[0], right[2], right[1]], False),
            (right + [[3, 3, 3]], False),
            ([[-1, -1, -1]] + right, False),
            ([[0, 1]] + right, False),
            (right + [[2, 2, 2, 2]], False),
            ([[]] + right, False),
            (right + [[10 ** 30, 2, 2]], False),
            ([], False),
        ):
            self.assertIs(check_new(self, is_rest_paper, "a", machine, rows), told, rows)

    def test_no_paper_for_rings(self):
        for letters, machine in some_machines(2031, 100, most=4):
            found = members(letters, machine)
            self.assertIs(is_rest_paper(letters, machine, sorted(found)), ring_of(letters, machine) is None)

    def test_made_up_papers(self):
        rng = random.Random(2032)
        seen = {True: 0, False: 0}
        for letters, machine in some_machines(2033, 200, most=3, letters=("a", "ab")):
            m = least(letters, machine)
            many = len(m[0])
            rows = {tuple(turning) for turning in members(letters, machine)}
            for _ in range(rng.choice([0, 1, 1, 2])):
                rows ^= {tuple(rng.randrange(many) for _ in range(many))}
            closed = all(tuple(m[0][state][at] for state in row) in rows for row in rows for at in range(len(letters)))
            told = closed and tuple(range(many)) in rows and all(slow_ring(row) is None for row in rows)
            self.assertIs(is_rest_paper(letters, machine, [list(row) for row in sorted(rows)]), told)
            seen[told] += 1
            if told:
                self.assertLessEqual({tuple(turning) for turning in members(letters, machine)}, rows)
        self.assertGreater(min(seen.values()), 40)


if __name__ == "__main__":
    unittest.main()
