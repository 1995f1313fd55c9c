import functools
import random
import unittest

from helpers import check_new, cycle, some_machine, some_machines
from writing_games import all_keys, as_table, choose, ends_of, has_end, led, slow_ranks

from hallofwords.again import again, counts, is_again_paper, is_count_paper, is_promise, promise
from hallofwords.games import bring, least_choice

EXAMPLE = ([[1, 0], [2, 0], [2, 2]], [False, False, True])


def slow_counts(machine, who):
    """The count of each key, by all that can be written: None if more ends than there are keys can be brought."""
    keys = all_keys(machine)
    most = len(ends_of(machine))
    # Between two ends nothing new is brought behind as many signs as there are keys.
    longest = (most + 2) * (len(keys) + 1)

    @functools.lru_cache(maxsize=None)
    def can(key, many, signs):
        many -= has_end(machine, key)
        if many <= 0:
            return True
        return signs > 0 and choose(who, key, [can(behind, many, signs - 1) for behind in led(machine, key)])

    found = {}
    for key in keys:
        for signs in range(longest):
            can(key, most + 1, signs)
        number = max(many for many in range(most + 2) if can(key, many, longest))
        found[key] = None if number == most + 1 else number
    return found


def slow_again(machine, who, found):
    ranks = slow_ranks(machine, who, [key for key in ends_of(machine) if found[key] is None])
    return {key: ranks[key] if found[key] is None else None for key in found}


def slow_promise(machine, who, many, found):
    if found[0, 0] is not None and found[0, 0] < many:
        return None
    table = {}
    for key in found:
        m = many if found[key] is None or found[key] > many else found[key]
        goals = [end for end in ends_of(machine) if found[end] is None or found[end] >= m]
        table[key] = (m, slow_ranks(machine, who, goals)[key] if m else 0)
    return as_table(machine, table)


def is_a_table(machine, table):
    return len(table) == len(machine[0]) and all(len(row) == 2 for row in table)


def slow_count_paper(machine, who, table):
    if not is_a_table(machine, table) or table[0][0] is None:
        return False
    for key in all_keys(machine):
        number = table[key[0]][key[1]]
        if number is None:
            continue
        held = []
        for p, s in led(machine, key):
            behind = table[p][s]
            held.append(behind is not None and (behind < number if has_end(machine, key) else behind <= number))
        if number < 0 or not choose(1 - who, key, held):
            return False
    return True


def slow_again_paper(machine, who, table):
    if not is_a_table(machine, table) or table[0][0] is None:
        return False
    for key in all_keys(machine):
        number = table[key[0]][key[1]]
        if number is None:
            continue
        held = []
        for p, s in led(machine, key):
            behind = table[p][s]
            held.append(behind is not None and (has_end(machine, key) or behind < number))
        if number < 0 or not choose(who, key, held):
            return False
    return True


def slow_is_promise(machine, who, many, table):
    if not is_a_table(machine, table) or table[0][0][0] < many:
        return False
    for key in all_keys(machine):
        m, r = table[key[0]][key[1]]
        held = []
        for p, s in led(machine, key):
            m2, r2 = table[p][s]
            held.append(m2 >= m - 1 if has_end(machine, key) else m2 > m or (m2 == m and r2 < r))
        if m < 0 or r < 0 or (m > 0 and not choose(who, key, held)):
            return False
    return True


def changed_table(rng, table, values):
    """The table with some of its values changed."""
    table = [list(row) for row in table]
    for _ in range(rng.randint(1, 2)):
        rng.choice(table)[rng.randint(0, 1)] = rng.choice(values)
    return table


class ToldTest(unittest.TestCase):
    def test_example(self):
        self.assertEqual(counts("ab", EXAMPLE), [[0, 0], [None, 0], [None, None]])
        self.assertEqual(counts("ab", EXAMPLE, who=1), [[0, 0], [0, None], [None, None]])
        self.assertEqual(again("ab", EXAMPLE), [[None, None], [1, None], [0, 0]])
        self.assertEqual(again("ab", EXAMPLE, who=1), [[None, None], [None, 1], [0, 0]])
        for who in (0, 1):
            self.assertIsNone(promise("ab", EXAMPLE, 1, who=who))

    def test_against_all_ways_of_writing(self):
        seen = {"none": 0, "some": 0, "zero": 0, "no promise": 0, "promise": 0}
        for letters, machine in some_machines(1501, 220, most=4):
            for who in (0, 1):
                found = slow_counts(machine, who)
                numbers = check_new(self, counts, letters, machine, who=who)
                self.assertEqual(numbers, as_table(machine, found))
                ranks = check_new(self, again, letters, machine, who=who)
                self.assertEqual(ranks, as_table(machine, slow_again(machine, who, found)))
                first = found[0, 0]
                seen["none" if first is None else "some" if first else "zero"] += 1
                self.assertIs(check_new(self, is_count_paper, letters, machine, numbers, who=who), first is not None)
                self.assertIs(check_new(self, is_again_paper, letters, machine, ranks, who=who), first is None)
                for many in (1, 2, 3, 200):
                    told = check_new(self, promise, letters, machine, many, who=who)
                    self.assertEqual(told, slow_promise(machine, who, many, found))
                    if told is None:
                        seen["no promise"] += 1
                    else:
                        seen["promise"] += 1
                        self.assertIs(check_new(self, is_promise, letters, machine, many, told, who=who), True)
                        self.assertIs(is_promise(letters, machine, many + 1, told, who=who), False)
            self.assertEqual(counts(letters, machine), counts(letters, machine, who=0))
            self.assertEqual(again(letters, machine), again(letters, machine, who=0))
            self.assertEqual(promise(letters, machine, 2), promise(letters, machine, 2, who=0))
        self.assertGreater(min(seen.values()), 15)

    def test_promises_of_exactly_the_count(self):
        # Seven ends in a row, and then none.
        machine = ([[min(k + 1, 9)] * 2 for k in range(10)], [1 < k < 9 for k in range(10)])
        self.assertEqual(counts("ab", machine)[0][0], 7)
        self.assertIsNone(promise("ab", machine, 8))
        self.assertIsNone(promise("ab", machine, 200))
        told = promise("ab", machine, 7)
        self.assertEqual(told[0], [(7, 2), (7, 2)])
        self.assertEqual(told[3], [(6, 0), (6, 0)])
        self.assertEqual(told[9], [(0, 0), (0, 0)])
        self.assertEqual(promise("ab", machine, 1)[3], [(1, 0), (1, 0)])
        self.assertTrue(is_promise("ab", machine, 7, told))
        self.assertFalse(is_promise("ab", machine, 8, told))

    def test_again_and_again(self):
        for many in (1, 5, 60):
            machine = cycle(many, many - 1)
            self.assertEqual(counts("a", machine), [[None, None]] * many)
            self.assertEqual(again("a", machine), [[many - 1 - k] * 2 for k in range(many)])
            told = promise("a", machine, 200)
            self.assertEqual(told, [[(200, many - 1 - k)] * 2 for k in range(many)])
            self.assertTrue(is_promise("a", machine, 200, told))
        nothing = ([[0, 0]], [False])
        self.assertEqual(counts("ab", nothing), [[0, 0]])
        self.assertEqual(again("ab", nothing), [[None, None]])
        self.assertIsNone(promise("ab", nothing, 1))

    def test_the_least_choice_by_a_count_paper(self):
        rng = random.Random(1502)
        for letters, machine in some_machines(1503, 150, most=6):
            for who in (0, 1):
                numbers = counts(letters, machine, who=who)
                choices = [[rng.choice(letters) for _ in machine[0]], None]
                choices = choices if who == 0 else choices[::-1]
                choices[1 - who] = least_choice(letters, machine, numbers, side=1 - who)
                for key in all_keys(machine):
                    if numbers[key[0]][key[1]] is not None:
                        self.assertLessEqual(ends_passed(letters, machine, key, choices), numbers[key[0]][key[1]])

    def test_great_machines(self):
        machine = ([[min(k + 1, 59)] * 2 for k in range(60)], [k < 59 for k in range(60)])
        self.assertEqual(counts("ab", machine), [[59 - k] * 2 for k in range(60)])
        self.assertTrue(is_count_paper("ab", machine, counts("ab", machine)))
        rng = random.Random(1504)
        for _ in range(5):
            machine = some_machine(rng, "ab", 60)
            for who in (0, 1):
                first = counts("ab", machine, who=who)[0][0]
                ranks = again("ab", machine, who=who)
                self.assertEqual(is_again_paper("ab", machine, ranks, who=who), first is None)
                if bring("ab", machine, who=who)[0][0] is None:
                    self.assertEqual(first, 0)


def ends_passed(letters, machine, key, choices):
    state, side = key
    passed = 0
    for _ in range(80):
        passed += machine[1][state]
        state, side = machine[0][state][letters.index(choices[side][state])], 1 - side
    return passed


class JudgesTest(unittest.TestCase):
    def test_count_papers(self):
        # Side 0 wants ends: from 0 it leads to the end 1 by a, from there side 1 leads to 2, where nothing is left.
        machine = ([[1, 2], [2, 2], [2, 2]], [False, True, False])
        right = [[1, None], [1, 1], [0, 0]]
        self.assertEqual(counts("ab", machine), [[1, 0], [1, 1], [0, 0]])
        for table, told in (
            (right, True),
            ([[1, 0], [1, 1], [0, 0]], True),
            ([[9, 9], [9, 9], [8, 8]], True),
            ([[10 ** 30, None], [None, 10 ** 30], [10 ** 29, None]], False),
            ([[10 ** 30, None], [None, 10 ** 30], [10 ** 29, 10 ** 29]], True),
            ([[0, None], [1, 1], [0, 0]], False),
            ([[None, None], [1, 1], [0, 0]], False),
            ([[1, None], [1, 0], [0, 0]], False),
            ([[1, None], [0, 1], [0, 0]], False),
            ([[1, None], [None, None], [0, 0]], False),
            ([[1, None], [1, 1], [1, 0]], False),
            ([[1, None], [1, 1], [None, 0]], False),
            ([[1, None], [1, 1], [0, 1]], False),
            ([[1, -1], [1, 1], [0, 0]], False),
            ([[1, None], [1, 1], [-1, -1]], False),
            ([[1, None], [1, 1]], False),
            ([[1, None], [1, 1], [0, 0], [0, 0]], False),
            ([[1, None], [1, 1], [0]], False),
            ([[1, None, None], [1, 1], [0, 0]], False),
            ([[], [], []], False),
            ([], False),
        ):
            self.assertIs(check_new(self, is_count_paper, "ab", machine, table, who=0), told, table)
        self.assertTrue(is_count_paper("ab", machine, right))
        self.assertTrue(is_count_paper("ab", machine, [[0, None], [1, 1], [0, 0]], who=1))
        self.assertFalse(is_count_paper("ab", machine, [[0, None], [1, 0], [0, 0]], who=1))
        # The other side writes some letter, who writes each.
        self.assertTrue(is_count_paper("ab", EXAMPLE, [[0, 0], [None, 0], [None, None]]))
        self.assertFalse(is_count_paper("ab", EXAMPLE, [[0, None], [None, 0], [None, None]]))
        self.assertFalse(is_count_paper("ab", EXAMPLE, [[0, 0], [0, 0], [None, None]]))

    def test_again_papers(self):
        # Side 0 leads from 0 to 1 by a; from 1 each letter leads side 1 to the end 2, and back to 0 from there.
        machine = ([[1, 3], [2, 2], [4, 3], [3, 3], [0, 0]], [False, False, True, False, False])
        self.assertEqual(again("ab", machine), [[2, None], [None, 1], [0, None], [None, None], [None, 3]])
        right = again("ab", machine)
        self.assertTrue(is_again_paper("ab", machine, right))

        def with_value(state, side, value):
            table = [list(row) for row in right]
            table[state][side] = value
            return table
        for table, told in (
            (right, True),
            (with_value(0, 0, 10 ** 30), False),
            (with_value(4, 1, 10 ** 30), True),
            (with_value(2, 0, 7), False),
            (with_value(2, 0, 0), True),
            (with_value(0, 0, None), False),
            (with_value(0, 0, 1), False),
            (with_value(0, 0, 0), False),
            (with_value(1, 1, 0), False),
            (with_value(1, 1, 2), False),
            (with_value(1, 1, None), False),
            (with_value(2, 0, None), False),
            (with_value(4, 1, None), False),
            (with_value(4, 1, 2), False),
            (with_value(2, 1, 0), False),
            (with_value(3, 0, 0), False),
            (with_value(3, 0, 5), False),
            (with_value(0, 1, 9), False),
            (with_value(2, 0, -1), False),
            (with_value(2, 1, -1), False),
            (right[:-1], False),
            (right + [[None, None]], False),
            (right[:-1] + [[None]], False),
            (right[:-1] + [[None, 3, 3]], False),
            ([], False),
        ):
            self.assertIs(check_new(self, is_again_paper, "ab", machine, table, who=0), told, table)
        self.assertFalse(is_again_paper("ab", machine, right, who=1))
        # Behind an end the number may rise.
        self.assertTrue(is_again_paper("a", cycle(2, 1), [[1, None], [None, 0]]))
        self.assertFalse(is_again_paper("a", cycle(2, 1), [[0, None], [None, 0]]))

    def test_promises(self):
        machine = ([[1, 2], [2, 2], [2, 2]], [False, True, False])
        right = [[(1, 1), (0, 0)], [(1, 0), (1, 0)], [(0, 0), (0, 0)]]
        self.assertEqual(promise("ab", machine, 1), right)

        def with_value(state, side, value):
            table = [list(row) for row in right]
            table[state][side] = value
            return table
        for table, many, told in (
            (right, 1, True),
            (right, 2, False),
            (with_value(0, 0, (1, 10 ** 30)), 1, True),
            (with_value(0, 0, (1, 0)), 1, False),
            (with_value(0, 0, (0, 0)), 1, False),
            (with_value(0, 0, (2, 9)), 1, False),
            (with_value(0, 0, (2, 9)), 2, False),
            (with_value(1, 1, (1, 1)), 1, False),
            (with_value(1, 1, (0, 0)), 1, False),
            (with_value(1, 1, (2, 9)), 1, False),
            (with_value(1, 0, (0, 7)), 1, True),
            (with_value(1, 0, (1, 99)), 1, True),
            (with_value(2, 0, (1, 0)), 1, False),
            (with_value(2, 1, (0, 10 ** 20)), 1, True),
            (with_value(2, 1, (0, -1)), 1, False),
            (with_value(2, 1, (-1, 0)), 1, False),
            (with_value(0, 0, (1, -1)), 1, False),
            (right[:-1], 1, False),
            (right + right[-1:], 1, False),
            (right[:-1] + [[(0, 0)]], 1, False),
            (right[:-1] + [[(0, 0)] * 3], 1, False),
            ([], 1, False),
        ):
            self.assertIs(check_new(self, is_promise, "ab", machine, many, table, who=0), told, table)
        self.assertTrue(is_promise("ab", machine, 1, right))
        self.assertFalse(is_promise("ab", machine, 1, right, who=1))

    def test_made_up_tables(self):
        rng = random.Random(1511)
        seen = {}
        for letters, machine in some_machines(1512, 250, most=3):
            who = rng.choice([0, 1])
            found = slow_counts(machine, who)
            numbers, ranks = counts(letters, machine, who=who), again(letters, machine, who=who)
            for judge, slow, table in ((is_count_paper, slow_count_paper, numbers),
                                       (is_again_paper, slow_again_paper, ranks)):
                for _ in range(6):
                    changed = changed_table(rng, table, [None, None, -1, 0, 1, 1, 2, 3, 4, 9])
                    told = slow(machine, who, changed)
                    self.assertIs(judge(letters, machine, changed, who=who), told)
                    seen[judge.__name__, told] = seen.get((judge.__name__, told), 0) + 1
                    if told:
                        self.assertEqual(found[0, 0] is None, judge is is_again_paper)
                        self.check_least(judge, found, changed)
            for many in (1, 2):
                told = promise(letters, machine, many, who=who)
                table = told or [[(1, 0), (0, 0)] for _ in machine[0]]
                for _ in range(6):
                    changed = changed_table(rng, table, [(0, 0), (1, 0), (1, 1), (2, 0), (2, 2), (3, 9), (-1, 0)])
                    right = slow_is_promise(machine, who, many, changed)
                    self.assertIs(is_promise(letters, machine, many, changed, who=who), right)
                    seen["promise", right] = seen.get(("promise", right), 0) + 1
                    self.assertFalse(right and told is None)
        self.assertEqual(len(seen), 6)
        self.assertGreater(min(seen.values()), 40)

    def check_least(self, judge, found, table):
        for key, count in found.items():
            number = table[key[0]][key[1]]
            if judge is is_count_paper and number is not None:
                self.assertGreaterEqual(number, count)
            if judge is is_again_paper and number is not None:
                self.assertIsNone(count)


if __name__ == "__main__":
    unittest.main()
