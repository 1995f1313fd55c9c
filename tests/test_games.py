import random
import unittest

from helpers import check_new, cycle, some_machine, some_machines
from writing_games import all_keys, as_table, choose, ends_of, has_end, led, slow_ranks

from hallofwords.games import (
    bring, greatest_choice, is_keep_paper, is_rank_paper, keep_paper, least_choice, play
)
from hallofwords.machines import run

EXAMPLE = ([[1, 0], [2, 0], [2, 2]], [False, False, True])


def slow_rank_paper(machine, who, ranks):
    if len(ranks) != len(machine[0]) or any(len(row) != 2 for row in ranks) or ranks[0][0] is None:
        return False
    for state, side in all_keys(machine):
        number = ranks[state][side]
        if number is None:
            continue
        if number < 0:
            return False
        held = [ranks[p][s] is not None and ranks[p][s] < number for p, s in led(machine, (state, side))]
        if not machine[1][state] and not choose(who, (state, side), held):
            return False
    return True


def slow_keep_paper(machine, who, keys):
    if keys != sorted(set(keys)) or (0, 0) not in keys:
        return False
    for key in keys:
        if key not in all_keys(machine) or has_end(machine, key):
            return False
        if not choose(1 - who, key, [behind in keys for behind in led(machine, key)]):
            return False
    return True


class RanksTest(unittest.TestCase):
    def test_example(self):
        self.assertEqual(bring("ab", EXAMPLE, who=0), [[None, None], [1, None], [0, 0]])
        self.assertEqual(bring("ab", EXAMPLE), [[None, None], [1, None], [0, 0]])
        self.assertEqual(keep_paper("ab", EXAMPLE), [(0, 0), (0, 1), (1, 1)])
        self.assertEqual(bring("ab", EXAMPLE, who=1), [[None, None], [None, 1], [0, 0]])
        self.assertEqual(keep_paper("ab", EXAMPLE, who=1), [(0, 0), (0, 1), (1, 0)])

    def test_against_all_ways_of_writing(self):
        found = {True: 0, False: 0}
        for letters, machine in some_machines(1401, 250):
            for who in (0, 1):
                ranks = slow_ranks(machine, who, ends_of(machine))
                table = check_new(self, bring, letters, machine, who=who)
                self.assertEqual(table, as_table(machine, ranks))
                kept = check_new(self, keep_paper, letters, machine, who=who)
                if ranks[0, 0] is None:
                    self.assertEqual(kept, [key for key in all_keys(machine) if ranks[key] is None])
                    self.assertIs(is_keep_paper(letters, machine, kept, who=who), True)
                else:
                    self.assertIsNone(kept)
                self.assertIs(check_new(self, is_rank_paper, letters, machine, table, who=who), kept is None)
                found[kept is None] += 1
            self.assertEqual(bring(letters, machine), bring(letters, machine, who=0))
            self.assertEqual(keep_paper(letters, machine), keep_paper(letters, machine, who=0))
        self.assertGreater(min(found.values()), 50)

    def test_great_machines(self):
        machine = cycle(60, 59)
        for who in (0, 1):
            table = bring("a", machine, who=who)
            self.assertEqual(table, [[59 - state] * 2 for state in range(60)])
            self.assertTrue(is_rank_paper("a", machine, table, who=who))
        # Side 1 leads back to 0 wherever it writes.
        machine = ([[k + 1, 0] for k in range(59)] + [[59, 59]], [k == 59 for k in range(60)])
        self.assertIsNone(bring("ab", machine)[0][0])
        self.assertEqual(len(keep_paper("ab", machine)), 117)


class RankPaperTest(unittest.TestCase):
    def test_conditions(self):
        # From 0 side 0 leads on to 1 by a, from 1 each letter leads side 1 to the end 2.
        machine = ([[1, 0], [2, 2], [2, 0]], [False, False, True])
        right = [[2, None], [None, 1], [0, 0]]
        self.assertEqual(bring("ab", machine), [[2, 3], [1, 1], [0, 0]])
        for ranks, told in (
            (right, True),
            ([[2, 3], [1, 1], [0, 0]], True),
            ([[9, None], [None, 1], [0, 0]], True),
            ([[10 ** 30, None], [10 ** 31, 10 ** 29], [None, 7]], False),
            ([[10 ** 30, None], [10 ** 31, 10 ** 29], [7, None]], False),
            ([[10 ** 30, None], [None, 10 ** 29], [7, None]], True),
            ([[2, None], [None, 1], [0, None]], True),
            ([[2, None], [None, 1], [None, 0]], False),
            ([[1, None], [None, 1], [0, 0]], False),
            ([[0, None], [None, 1], [0, 0]], False),
            ([[None, None], [None, 1], [0, 0]], False),
            ([[2, None], [None, None], [0, 0]], False),
            ([[2, None], [None, 1], [1, 0]], False),
            ([[2, None], [None, 1], [0, -1]], False),
            ([[2, None], [None, 1], [-1, 0]], False),
            ([[-1, None], [None, -2], [-3, -3]], False),
            ([[2, 3], [0, 1], [0, 0]], False),
            ([[2, 1], [None, 1], [0, 0]], False),
            ([[2, None], [None, 1]], False),
            ([[2, None], [None, 1], [0, 0], [0, 0]], False),
            ([[2, None], [None, 1], [0]], False),
            ([[2, None], [None, 1], [0, 0, 0]], False),
            ([[2], [None, 1], [0, 0]], False),
            ([[], [], []], False),
            ([], False),
        ):
            self.assertIs(check_new(self, is_rank_paper, "ab", machine, ranks, who=0), told, ranks)
        self.assertTrue(is_rank_paper("ab", machine, right))
        self.assertFalse(is_rank_paper("ab", machine, right, who=1))

    def test_made_up_tables(self):
        rng = random.Random(1411)
        seen = {True: 0, False: 0}
        for letters, machine in some_machines(1412, 300, most=3):
            who = rng.choice([0, 1])
            ranks = slow_ranks(machine, who, ends_of(machine))
            for _ in range(6):
                table = as_table(machine, ranks)
                for _ in range(rng.randint(1, 3)):
                    rng.choice(table)[rng.randint(0, 1)] = rng.choice([None, -1, 0, 0, 1, 2, 3, 4, 9])
                told = slow_rank_paper(machine, who, table)
                self.assertIs(is_rank_paper(letters, machine, table, who=who), told)
                seen[told] += 1
                if told:
                    for key in all_keys(machine):
                        number = table[key[0]][key[1]]
                        if number is not None:
                            self.assertLessEqual(ranks[key], number)
        self.assertGreater(min(seen.values()), 100)


class KeepPaperTest(unittest.TestCase):
    def test_conditions(self):
        right = [(0, 0), (0, 1), (1, 1)]
        for keys, told in (
            (right, True),
            ([(0, 0), (0, 1), (1, 0), (1, 1)], False),
            ([(0, 0), (0, 1)], False),
            ([(0, 0), (1, 1)], False),
            ([(0, 1), (1, 1)], False),
            ([(0, 0), (1, 1), (0, 1)], False),
            ([(0, 0), (0, 0), (0, 1), (1, 1)], False),
            ([(0, 0), (0, 1), (1, 1), (1, 1)], False),
            ([(0, 0), (0, 1), (1, 1), (2, 0)], False),
            ([(0, 0), (0, 1), (1, 1), (2, 1)], False),
            ([(0, 0), (0, 1), (1, 1), (3, 0)], False),
            ([(-1, 0), (0, 0), (0, 1), (1, 1)], False),
            ([(0, -1), (0, 0), (0, 1), (1, 1)], False),
            ([(0, 0), (0, 1), (0, 2), (1, 1)], False),
            ([(0, 0), (0, 1), (1, 1), (10 ** 30, 0)], False),
            ([], False),
        ):
            self.assertIs(check_new(self, is_keep_paper, "ab", EXAMPLE, keys, who=0), told, keys)
        self.assertTrue(is_keep_paper("ab", EXAMPLE, right))
        self.assertFalse(is_keep_paper("ab", EXAMPLE, right, who=1))
        self.assertTrue(is_keep_paper("ab", EXAMPLE, [(0, 0), (0, 1), (1, 0)], who=1))

    def test_all_lists_of_keys(self):
        seen = {True: 0, False: 0}
        for letters, machine in some_machines(1421, 120, most=3):
            keys = all_keys(machine)
            for who in (0, 1):
                kept = keep_paper(letters, machine, who=who)
                right = 0
                for chosen in range(2 ** len(keys)):
                    listed = [key for place, key in enumerate(keys) if chosen >> place & 1]
                    told = slow_keep_paper(machine, who, listed)
                    self.assertIs(is_keep_paper(letters, machine, listed, who=who), told)
                    seen[told] += 1
                    right += told
                    if told:
                        self.assertLessEqual(set(listed), set(kept))
                self.assertEqual(right > 0, kept is not None)
        self.assertGreater(min(seen.values()), 100)


class ChoicesTest(unittest.TestCase):
    def test_example(self):
        ranks = bring("ab", EXAMPLE)
        self.assertEqual(least_choice("ab", EXAMPLE, ranks, side=0), ["a", "a", "a"])
        self.assertEqual(greatest_choice("ab", EXAMPLE, ranks, side=1), ["b", "b", "a"])

    def test_equal_numbers_and_none(self):
        machine = ([[0, 1, 2], [1, 2, 0], [2, 2, 2]], [False] * 3)
        for numbers, least, greatest in (
            ([1, 1, 1], "aaa", "aaa"),
            ([None, None, None], "aaa", "aaa"),
            ([5, 3, None], "baa", "cba"),
            ([None, 3, 3], "baa", "aca"),
            ([-7, 10 ** 30, -7], "aba", "baa"),
            ([None, -1, -2], "cba", "aca"),
        ):
            for side in (0, 1):
                # The numbers of the other side's keys are looked at, not those of the side itself.
                table = [[None, None] for _ in numbers]
                for row, number in zip(table, numbers):
                    row[1 - side] = number
                    row[side] = 4
                self.assertEqual(check_new(self, least_choice, "abc", machine, table, side=side), list(least))
                self.assertEqual(check_new(self, greatest_choice, "abc", machine, table, side=side), list(greatest))

    def test_choices_by_ranks(self):
        rng = random.Random(1431)
        for letters, machine in some_machines(1432, 150):
            for who in (0, 1):
                ranks = bring(letters, machine, who=who)
                other = [rng.choice(letters) for _ in machine[0]]
                best = least_choice(letters, machine, ranks, side=who)
                self.check_brought(letters, machine, ranks, (best, other) if who == 0 else (other, best))
                worst = greatest_choice(letters, machine, ranks, side=1 - who)
                self.check_kept(letters, machine, ranks, (other, worst) if who == 0 else (worst, other))

    def check_brought(self, letters, machine, ranks, choices):
        for state, side in all_keys(machine):
            if ranks[state][side] is not None:
                self.assertTrue(any(machine[1][p] for p in passed(letters, machine, state, side, choices,
                                                                  ranks[state][side])))

    def check_kept(self, letters, machine, ranks, choices):
        for state, side in all_keys(machine):
            if ranks[state][side] is None:
                self.assertFalse(any(machine[1][p] for p in passed(letters, machine, state, side, choices, 30)))

    def test_greatest_choice_puts_off(self):
        # If both write best, the end is come to just after the rank.
        for letters, machine in some_machines(1433, 100):
            for who in (0, 1):
                ranks = bring(letters, machine, who=who)
                choices = [least_choice(letters, machine, ranks, side=side) if side == who else
                           greatest_choice(letters, machine, ranks, side=side) for side in (0, 1)]
                for state, side in all_keys(machine):
                    rank = ranks[state][side]
                    if rank is not None:
                        states = passed(letters, machine, state, side, choices, rank)
                        self.assertEqual([machine[1][p] for p in states], [False] * rank + [True])


def passed(letters, machine, state, side, choices, signs):
    """The states that are passed from a key on, by so many signs."""
    states = [state]
    for _ in range(signs):
        state = machine[0][state][letters.index(choices[side][state])]
        side = 1 - side
        states.append(state)
    return states


class PlayTest(unittest.TestCase):
    def test_words(self):
        self.assertEqual(check_new(self, play, "ab", EXAMPLE, ["a", "a", "a"], ["b", "b", "b"], 0), "")
        self.assertEqual(check_new(self, play, "ab", EXAMPLE, ["a", "a", "a"], ["b", "b", "b"], 1), "a")
        self.assertEqual(play("ab", EXAMPLE, ["a", "a", "a"], ["b", "b", "b"], 5), "ababa")
        self.assertEqual(play("ab", EXAMPLE, ["a", "b", "b"], ["b", "a", "a"], 5), "aabab")
        self.assertEqual(play("ab", EXAMPLE, ["a", "a", "a"], ["b", "b", "b"], 200), "ab" * 100)

    def test_made_up_choices(self):
        rng = random.Random(1441)
        for _ in range(60):
            letters = rng.choice(["a", "ab", "abc"])
            machine = some_machine(rng, letters, 6)
            choices = [[rng.choice(letters) for _ in machine[0]] for _ in (0, 1)]
            length = rng.choice([0, 1, 7, 200])
            word = check_new(self, play, letters, machine, choices[0], choices[1], length)
            self.assertEqual(len(word), length)
            for place, sign in enumerate(word):
                self.assertEqual(sign, choices[place % 2][run(letters, machine, word[:place])])


if __name__ == "__main__":
    unittest.main()
