import itertools
import random
import unittest
from fractions import Fraction

from drawn import chances_of, of_letters, pair, reaching, some_sources
from helpers import check_new, cycle, some_machine
from writing_games import all_keys, as_table, has_end, led

from hallofwords.errors import BadSize
from hallofwords.odds import best_chances, best_choice, choice_chances, is_high_odds, is_low_odds

HALVES = [(1, 2), (1, 2)]
EXAMPLE = ([[1, 0], [2, 0], [2, 2]], [False, False, True])
LITTLE = Fraction(1, 10 ** 40)


def some_trap(rng, letters, most):
    """A machine with one end, and often with a state from which nothing leads on."""
    many = rng.randint(2, most)
    table = [[rng.randrange(many) for _ in letters] for _ in range(many)]
    if rng.random() < 0.7:
        table[many - 1] = [many - 1] * len(letters)
    end = rng.randrange(1, many)
    return (table, [state == end for state in range(many)])


def steps_of(letters, source, machine, choice, who):
    steps = {}
    for key in all_keys(machine):
        if key[1] == who:
            steps[key] = [(Fraction(1), led(machine, key)[letters.index(choice[key[0]])])]
        else:
            steps[key] = list(zip(of_letters(source), led(machine, key)))
    return steps


def slow_by_choice(letters, source, machine, choice, who):
    goals = {key for key in all_keys(machine) if has_end(machine, key)}
    return chances_of(steps_of(letters, source, machine, choice, who), goals)


def slow_best(letters, source, machine, who):
    """The best chance of each key, over all choices."""
    best = {key: Fraction(0) for key in all_keys(machine)}
    for choice in itertools.product(letters, repeat=len(machine[0])):
        told = slow_by_choice(letters, source, machine, choice, who)
        best = {key: max(best[key], told[key]) for key in best}
    return best


def slow_lengths(letters, source, machine, who, best):
    """The lengths of point 122, None without one."""
    lengths = {key: 0 if has_end(machine, key) else None for key in all_keys(machine)}
    for _ in lengths:
        for key in lengths:
            if has_end(machine, key) or best[key] == 0:
                continue
            behind = led(machine, key)
            if key[1] == who:
                behind = [other for other in behind if best[other] == best[key]]
            else:
                behind = [other for other, part in zip(behind, of_letters(source)) if part]
            told = [lengths[other] for other in behind if lengths[other] is not None and best[other] > 0]
            lengths[key] = min(told) + 1 if told else None
    return lengths


def slow_choice(letters, source, machine, who):
    best = slow_best(letters, source, machine, who)
    lengths = slow_lengths(letters, source, machine, who, best)
    choice = []
    for state in range(len(machine[0])):
        key = (state, who)
        if has_end(machine, key) or best[key] == 0:
            choice.append(letters[0])
        else:
            fitting = [(lengths[other], at) for at, other in enumerate(led(machine, key)) if best[other] == best[key]]
            choice.append(letters[min(fitting)[1]])
    return choice


def told_table(machine, values):
    return as_table(machine, {key: pair(value) for key, value in values.items()})


def is_a_table(machine, table):
    return len(table) == len(machine[0]) and all(len(row) == 2 for row in table)


def behind_sum(source, machine, table, key):
    return sum(part * table[p][s] for part, (p, s) in zip(of_letters(source), led(machine, key)))


def slow_high(source, machine, table, who):
    for key in all_keys(machine):
        number = table[key[0]][key[1]]
        if has_end(machine, key):
            least = 1
        elif key[1] == who:
            least = max(table[p][s] for p, s in led(machine, key))
        else:
            least = behind_sum(source, machine, table, key)
        if number < 0 or number < least:
            return False
    return True


def slow_low(letters, source, machine, choice, table, who):
    steps = steps_of(letters, source, machine, choice, who)
    leads = {key: [behind for part, behind in listed if part] for key, listed in steps.items()}
    coming = reaching(leads, {key for key in leads if has_end(machine, key)})
    for key in all_keys(machine):
        number = table[key[0]][key[1]]
        if has_end(machine, key):
            most = 1
        elif key not in coming:
            most = 0
        elif key[1] == who:
            p, s = steps[key][0][1]
            most = table[p][s]
        else:
            most = behind_sum(source, machine, table, key)
        if number > most:
            return False
    return True


def rough(rng, value):
    times = rng.choice([1, 2, 6, 10 ** 30])
    return (value.numerator * times, value.denominator * times)


class BestTest(unittest.TestCase):
    def test_example(self):
        all_one = [[(1, 1), (1, 1)]] * 3
        self.assertEqual(best_chances("ab", HALVES, EXAMPLE), all_one)
        self.assertEqual(best_choice("ab", HALVES, EXAMPLE), ["a", "a", "a"])
        self.assertEqual(choice_chances("ab", HALVES, EXAMPLE, ["a", "a", "a"]), all_one)
        self.assertEqual(choice_chances("ab", HALVES, EXAMPLE, ["b", "a", "a"]), all_one)
        self.assertEqual(
            choice_chances("ab", HALVES, EXAMPLE, ["b", "b", "a"]),
            [[(0, 1), (0, 1)], [(0, 1), (1, 2)], [(1, 1), (1, 1)]],
        )
        best = {key: Fraction(1) for key in all_keys(EXAMPLE)}
        self.assertEqual(as_table(EXAMPLE, slow_lengths("ab", HALVES, EXAMPLE, 0, best)), [[2, 2], [1, 1], [0, 0]])

    def test_against_all_choices(self):
        seen = {"between": 0, "undrawn": 0}
        for rng, letters, source in some_sources(1601, 250):
            machine = rng.choice([some_machine, some_trap, some_trap])(rng, letters, 4)
            for who in (0, 1):
                best = slow_best(letters, source, machine, who)
                found = check_new(self, best_chances, letters, source, machine, who=who)
                self.assertEqual(found, told_table(machine, best))
                choice = check_new(self, best_choice, letters, source, machine, who=who)
                self.assertEqual(choice, slow_choice(letters, source, machine, who))
                self.assertEqual(choice_chances(letters, source, machine, choice, who=who), found)
                other = [rng.choice(letters) for _ in choice]
                self.assertEqual(
                    check_new(self, choice_chances, letters, source, machine, other, who=who),
                    told_table(machine, slow_by_choice(letters, source, machine, other, who)),
                )
                seen["between"] += any(0 < value < 1 for value in best.values())
                seen["undrawn"] += (0, 1) in source
                self.assertIs(check_new(self, is_high_odds, letters, source, machine, found, who=who), True)
                self.assertIs(check_new(self, is_low_odds, letters, source, machine, choice, found, who=who), True)
            self.assertEqual(best_chances(letters, source, machine),
                             best_chances(letters, source, machine, who=0))
            self.assertEqual(best_choice(letters, source, machine), best_choice(letters, source, machine, who=0))
        self.assertGreater(min(seen.values()), 15)

    def test_who_is_left_out(self):
        machine = ([[1, 0], [1, 1]], [False, True])
        source = [(1, 3), (2, 3)]
        choice = ["b", "a"]
        self.assertEqual(choice_chances("ab", source, machine, choice)[0], [(1, 1), (1, 1)])
        self.assertEqual(choice_chances("ab", [(0, 1), (1, 1)], machine, choice)[0], [(0, 1), (0, 1)])
        self.assertEqual(best_chances("ab", [(0, 1), (1, 1)], machine), [[(1, 1)] * 2] * 2)
        for who in (0, 1):
            table = choice_chances("ab", source, machine, choice, who=who)
            self.assertTrue(is_low_odds("ab", source, machine, choice, table, who=who))

    def test_a_letter_that_puts_the_end_off(self):
        # By a state 0 stays where the best chance is the greatest, too; by b it goes on to the end.
        machine = ([[0, 1], [1, 1]], [False, True])
        self.assertEqual(best_choice("ab", [(1, 1), (0, 1)], machine), ["b", "a"])
        self.assertEqual(best_chances("ab", [(1, 1), (0, 1)], machine), [[(1, 1)] * 2] * 2)
        self.assertEqual(
            choice_chances("ab", [(1, 1), (0, 1)], machine, ["a", "a"]), [[(0, 1), (0, 1)], [(1, 1), (1, 1)]]
        )

    def test_sizes(self):
        for many in (12, 13, 60):
            machine = cycle(many, many - 1, letters="ab")
            for call in (best_chances, best_choice,
                         lambda *told, who=0: choice_chances(*told, ["a"] * many, who=who)):
                for who in (0, 1):
                    if many == 12:
                        self.assertIsInstance(call("ab", HALVES, machine, who=who), list)
                        continue
                    with self.assertRaises(BadSize) as caught:
                        call("ab", HALVES, machine, who=who)
                    self.assertEqual(caught.exception.size, many)

    def test_greater_machines(self):
        letters = "abcdef"
        source = [(1, 100), (3, 50), (1, 25), (3, 20), (7, 100), (67, 100)]
        rng = random.Random(1602)
        for _ in range(8):
            machine = ([[rng.randrange(12) for _ in letters] for _ in range(12)], [k == 11 for k in range(12)])
            machine[0][10][:] = [10] * 6
            for who in (0, 1):
                found = best_chances(letters, source, machine, who=who)
                choice = best_choice(letters, source, machine, who=who)
                self.assertEqual(choice_chances(letters, source, machine, choice, who=who), found)
                self.assertTrue(is_high_odds(letters, source, machine, found, who=who))
                self.assertTrue(is_low_odds(letters, source, machine, choice, found, who=who))


class JudgesTest(unittest.TestCase):
    # Side 0 wants the end 2; by b each state leads to 3, from which nothing leads on; by a one comes nearer.
    MACHINE = ([[1, 3], [2, 3], [2, 2], [3, 3]], [False, False, True, False])

    def test_high_odds(self):
        best = [[(1, 2), (1, 2)], [(1, 1), (1, 2)], [(1, 1), (1, 1)], [(0, 1), (0, 1)]]
        self.assertEqual(best_chances("ab", HALVES, self.MACHINE), best)

        def with_value(state, side, value):
            table = [list(row) for row in best]
            table[state][side] = value
            return table
        great = (10 ** 50, 1)
        for table, told in (
            (best, True),
            ([[(2, 4), (50, 100)], [(3, 3), (1, 2)], [(7, 7), (1, 1)], [(0, 9), (0, 1)]], True),
            ([[great, great], [great, great], [(1, 1), (1, 1)], [(0, 1), (0, 1)]], True),
            (with_value(0, 0, great), True),
            (with_value(0, 0, (49, 100)), False),
            (with_value(0, 1, (10 ** 40 - 1, 2 * 10 ** 40)), False),
            (with_value(0, 1, great), True),
            (with_value(1, 0, (10 ** 40 - 1, 10 ** 40)), False),
            (with_value(1, 0, (10 ** 40 + 1, 10 ** 40)), False),
            (with_value(1, 1, (10 ** 40 - 1, 2 * 10 ** 40)), False),
            (with_value(1, 1, (51, 100)), False),
            (with_value(2, 0, (99, 100)), False),
            (with_value(2, 1, (10 ** 40 + 1, 10 ** 40)), False),
            (with_value(3, 0, (-1, 10 ** 40)), False),
            (with_value(3, 1, (-1, 10 ** 40)), False),
            (with_value(3, 0, (1, 10 ** 40)), False),
            (best[:-1], False),
            (best + best[-1:], False),
            (best[:-1] + [[(0, 1)]], False),
            (best[:-1] + [[(0, 1)] * 3], False),
            ([], False),
        ):
            self.assertIs(check_new(self, is_high_odds, "ab", HALVES, self.MACHINE, table, who=0), told, table)
        self.assertTrue(is_high_odds("ab", HALVES, self.MACHINE, best))
        self.assertFalse(is_high_odds("ab", HALVES, self.MACHINE, best, who=1))

    def test_low_odds(self):
        best = best_chances("ab", HALVES, self.MACHINE)
        choice = ["a", "a", "b", "b"]

        def with_value(state, side, value):
            table = [list(row) for row in best]
            table[state][side] = value
            return table
        for table, told in (
            (best, True),
            ([[(-10 ** 50, 1)] * 2, [(0, 1), (0, 1)], [(0, 1), (-1, 2)], [(-1, 1), (-2, 1)]], False),
            ([[(-10 ** 50, 1)] * 2, [(-1, 2), (-7, 4)], [(0, 1), (-1, 2)], [(-1, 1), (-2, 1)]], True),
            (with_value(0, 0, (10 ** 40 + 1, 2 * 10 ** 40)), False),
            (with_value(0, 1, (10 ** 40 + 1, 2 * 10 ** 40)), False),
            (with_value(1, 0, (10 ** 40 + 1, 10 ** 40)), False),
            (with_value(1, 1, (10 ** 40 + 1, 2 * 10 ** 40)), False),
            (with_value(2, 0, (10 ** 40 + 1, 10 ** 40)), False),
            (with_value(2, 1, (101, 100)), False),
            (with_value(3, 0, (1, 10 ** 40)), False),
            (with_value(3, 1, (1, 10 ** 40)), False),
            (with_value(0, 0, (-10 ** 50, 3)), True),
            (with_value(1, 1, (49, 100)), False),
            (best[:-1], False),
            (best + best[-1:], False),
            (best[:-1] + [[(0, 1)]], False),
            (best[:-1] + [[(0, 1)] * 3], False),
            ([], False),
        ):
            self.assertIs(check_new(self, is_low_odds, "ab", HALVES, self.MACHINE, choice, table), told, table)
        for other, told in (
            (["a", "a", "a", "a"], True),
            (["b", "a", "a", "a"], False),
            (["a", "b", "a", "a"], False),
            (["a", "a", "a"], False),
            (["a", "a", "a", "a", "a"], False),
            ([], False),
        ):
            self.assertIs(check_new(self, is_low_odds, "ab", HALVES, self.MACHINE, other, best), told, other)
        # From a key without a way to an end nothing but 0 is shown, though the fractions bear one another out.
        stays = ([[0, 1], [1, 1]], [False, True])
        for drawn, sign, told in (([(1, 1), (0, 1)], "a", False), ([(1, 1), (0, 1)], "b", True), (HALVES, "a", True)):
            self.assertIs(is_low_odds("ab", drawn, stays, [sign, "a"], [[(1, 1)] * 2] * 2), told)

    def test_made_up_tables(self):
        seen = {}
        values = [Fraction(0), Fraction(1), Fraction(1, 2), Fraction(1, 3), Fraction(2), Fraction(-1), Fraction(3, 4)]
        for rng, letters, source in some_sources(1611, 300):
            machine = rng.choice([some_machine, some_trap])(rng, letters, 3)
            who = rng.choice([0, 1])
            best = slow_best(letters, source, machine, who)
            choice = [rng.choice(letters) for _ in machine[0]]
            chances = slow_by_choice(letters, source, machine, choice, who)
            for told in (best, chances):
                table = as_table(machine, told)
                for _ in range(rng.randint(0, 3)):
                    row, side = rng.choice(table), rng.randint(0, 1)
                    row[side] = rng.choice(values + [row[side] + LITTLE, row[side] - LITTLE])
                given = [[rough(rng, value) for value in row] for row in table]
                high = slow_high(source, machine, table, who)
                self.assertIs(is_high_odds(letters, source, machine, given, who=who), high)
                low = slow_low(letters, source, machine, choice, table, who)
                self.assertIs(is_low_odds(letters, source, machine, choice, given, who=who), low)
                seen["high", high] = seen.get(("high", high), 0) + 1
                seen["low", low] = seen.get(("low", low), 0) + 1
                for key in all_keys(machine):
                    if high:
                        self.assertGreaterEqual(table[key[0]][key[1]], best[key])
                    if low:
                        self.assertLessEqual(table[key[0]][key[1]], chances[key])
            self.assertIs(is_low_odds(letters, source, machine, choice, told_table(machine, chances), who=who), True)
        self.assertGreater(min(seen.values()), 60)

    def test_great_machines(self):
        machine = cycle(60, 59)
        table = [[(1, 1), (1, 1)]] * 60
        for who in (0, 1):
            self.assertTrue(is_high_odds("a", [(1, 1)], machine, table, who=who))
            self.assertTrue(is_low_odds("a", [(1, 1)], machine, ["a"] * 60, table, who=who))


if __name__ == "__main__":
    unittest.main()
