import random
import unittest
from fractions import Fraction

from drawn import chances_by_state, machine_steps, means_by_state, of_letters, pair, reaching, some_sources
from helpers import check_new, cycle, some_machine

from hallofwords.bounds import is_high, is_high_means, is_low, is_low_means
from hallofwords.chances import chances_from, means_from

HALVES = [(1, 2), (1, 2)]
LITTLE = Fraction(1, 10 ** 40)
# By a from state 0 to 1, from there to the end 2; by b back to 0, and from 0 to 3, from which nothing leads on.
MACHINE = ([[1, 3], [2, 0], [2, 2], [3, 3]], [False, False, True, False])


def rough(rng, value):
    """A fraction, most often not in lowest terms."""
    times = rng.choice([1, 2, 6, 10 ** 30])
    return None if value is None else (value.numerator * times, value.denominator * times)


def sums(source, machine, numbers, state):
    return sum(part * numbers[behind] for part, behind in zip(of_letters(source), machine[0][state]) if part)


def slow_high(source, machine, numbers):
    for state, number in enumerate(numbers):
        least = 1 if machine[1][state] else sums(source, machine, numbers, state)
        if number < 0 or number < least:
            return False
    return True


def slow_low(source, machine, numbers):
    leads = {state: [behind for part, behind in steps if part] for state, steps in machine_steps(source, machine).items()}
    coming = reaching(leads, {state for state, end in enumerate(machine[1]) if end})
    for state, number in enumerate(numbers):
        if machine[1][state]:
            most = 1
        else:
            most = sums(source, machine, numbers, state) if state in coming else 0
        if number > most:
            return False
    return True


def slow_high_means(source, machine, numbers):
    if numbers[0] is None:
        return False
    for state, number in enumerate(numbers):
        if number is None:
            continue
        if number < 0:
            return False
        if not machine[1][state]:
            drawn = [behind for chance, behind in zip(source, machine[0][state]) if chance != (0, 1)]
            if any(numbers[behind] is None for behind in drawn):
                return False
            if number < 1 + sums(source, machine, numbers, state):
                return False
    return True


def slow_low_means(source, machine, numbers):
    return all(number <= (0 if machine[1][state] else 1 + sums(source, machine, numbers, state))
               for state, number in enumerate(numbers))


JUDGES = ((is_high, slow_high), (is_low, slow_low), (is_high_means, slow_high_means), (is_low_means, slow_low_means))


class ToldTest(unittest.TestCase):
    def test_the_chances_and_means_themselves(self):
        finite = 0
        for rng, letters, source in some_sources(1301, 150):
            machine = some_machine(rng, letters, 7)
            chances = chances_from(letters, source, machine)
            self.assertIs(check_new(self, is_high, letters, source, machine, chances), True)
            self.assertIs(check_new(self, is_low, letters, source, machine, chances), True)
            means = means_from(letters, source, machine)
            self.assertIs(check_new(self, is_high_means, letters, source, machine, means), means[0] is not None)
            low = [mean or (0, 1) for mean in means]
            self.assertIs(check_new(self, is_low_means, letters, source, machine, low), True)
            finite += means[0] is not None
            for told in (chances, low):
                for wrong in (told[1:], told + told[:1], []):
                    for judge, _ in JUDGES:
                        self.assertIs(judge(letters, source, machine, wrong), False)
            self.check_one_changed(letters, source, machine)
        self.assertGreater(finite, 40)

    def check_one_changed(self, letters, source, machine):
        chances, means = chances_by_state(source, machine), means_by_state(source, machine)
        for state in range(len(chances)):
            for told, judges in ((chances, JUDGES[:2]), ([mean or Fraction(0) for mean in means], JUDGES[3:])):
                for more in (LITTLE, -LITTLE, -2, 10 ** 50):
                    changed = told[:state] + [told[state] + more] + told[state + 1:]
                    for judge, slow in judges:
                        self.assertIs(judge(letters, source, machine, [pair(number) for number in changed]),
                                      slow(source, machine, changed), judge)
            for number in (None, Fraction(0), (means[state] or 0) + LITTLE, (means[state] or 1) - LITTLE, Fraction(-1)):
                changed = means[:state] + [number] + means[state + 1:]
                self.assertIs(is_high_means(letters, source, machine, [pair(told) for told in changed]),
                              slow_high_means(source, machine, changed))

    def test_made_up_numbers(self):
        seen = {}
        for rng, letters, source in some_sources(1302, 500):
            machine = some_machine(rng, letters, 3)
            values = [Fraction(0), Fraction(1), Fraction(1, 2), Fraction(2), Fraction(7), Fraction(-1), Fraction(1, 3)]
            numbers = [rng.choice(values) for _ in machine[0]]
            for judge, slow in JUDGES:
                told = numbers
                if judge is is_high_means:
                    told = [rng.choice([number, number, None]) for number in numbers]
                wanted = slow(source, machine, told)
                found = check_new(self, judge, letters, source, machine, [rough(rng, number) for number in told])
                self.assertIs(found, wanted)
                seen[judge.__name__, wanted] = seen.get((judge.__name__, wanted), 0) + 1
                if wanted:
                    self.check_bound(judge, source, machine, told)
        self.assertEqual(len(seen), 8)
        self.assertGreater(min(seen.values()), 10)

    def check_bound(self, judge, source, machine, numbers):
        chances, means = chances_by_state(source, machine), means_by_state(source, machine)
        for number, chance, mean in zip(numbers, chances, means):
            if judge is is_high:
                self.assertGreaterEqual(number, chance)
            elif judge is is_low:
                self.assertLessEqual(number, chance)
            elif judge is is_high_means and number is not None:
                self.assertEqual(chance, 1)
                self.assertLessEqual(mean, number)
            elif judge is is_low_means and mean is not None:
                self.assertLessEqual(number, mean)


class ConditionsTest(unittest.TestCase):
    def test_high_numbers(self):
        # The chances are 1/3 at state 0, 2/3 at 1, 1 at 2 and 0 at 3.
        self.assertEqual(chances_from("ab", HALVES, MACHINE), [(1, 3), (2, 3), (1, 1), (0, 1)])
        for numbers, told in (
            ([(1, 3), (2, 3), (1, 1), (0, 1)], True),
            ([(2, 6), (200, 300), (7, 7), (0, 5)], True),
            ([(1, 1), (1, 1), (1, 1), (1, 1)], True),
            ([(10 ** 50, 1), (10 ** 50, 1), (1, 1), (0, 1)], True),
            ([(10 ** 50, 1), (10 ** 50, 1), (10 ** 51, 1), (0, 1)], False),
            ([(333, 1000), (2, 3), (1, 1), (0, 1)], False),
            ([(1, 3), (2, 3), (1, 1), (-1, 10 ** 40)], False),
            ([(1, 3), (2, 3), (10 ** 40 - 1, 10 ** 40), (0, 1)], False),
            ([(1, 3), (2, 3), (10 ** 40 + 1, 10 ** 40), (0, 1)], False),
            ([(1, 3), (3, 4), (10 ** 40 + 1, 10 ** 40), (0, 1)], False),
            ([(2, 5), (3, 4), (10 ** 40 + 1, 10 ** 40), (0, 1)], True),
            ([(1, 3), (2, 3), (1, 1), (1, 10 ** 40)], False),
            ([(1, 3), (2, 3), (1, 1)], False),
            ([(1, 3), (2, 3), (1, 1), (0, 1), (0, 1)], False),
            ([], False),
        ):
            self.assertIs(check_new(self, is_high, "ab", HALVES, MACHINE, numbers), told, numbers)

    def test_low_numbers(self):
        for numbers, told in (
            ([(1, 3), (2, 3), (1, 1), (0, 1)], True),
            ([(0, 1), (0, 1), (0, 1), (0, 1)], True),
            ([(-10 ** 50, 1), (0, 2), (1, 2), (-7, 3)], False),
            ([(-10 ** 50, 1), (-10 ** 50, 1), (1, 2), (-7, 3)], True),
            ([(1, 3), (2, 3), (10 ** 40 + 1, 10 ** 40), (0, 1)], False),
            ([(1, 3), (2, 3), (1, 1), (1, 10 ** 40)], False),
            ([(334, 1000), (2, 3), (1, 1), (0, 1)], False),
            ([(1, 3), (667, 1000), (1, 1), (0, 1)], False),
            ([(1, 3), (2, 3), (1, 1)], False),
            ([(1, 3), (2, 3), (1, 1), (0, 1), (0, 1)], False),
        ):
            self.assertIs(check_new(self, is_low, "ab", HALVES, MACHINE, numbers), told, numbers)
        # Without the condition where no end can be reached any number could be told for a state that leads to itself.
        self.assertFalse(is_low("a", [(1, 1)], ([[0]], [False]), [(1, 10 ** 40)]))
        self.assertTrue(is_low("a", [(1, 1)], ([[0]], [False]), [(0, 9)]))
        stays = ([[0, 1], [1, 1]], [False, True])
        self.assertFalse(is_low("ab", [(1, 1), (0, 1)], stays, [(1, 10 ** 40), (1, 1)]))
        self.assertTrue(is_low("ab", [(1, 100), (99, 100)], stays, [(1, 1), (1, 1)]))

    def test_high_means(self):
        # By a from 0 to 1 and back, by b to the end 2; state 3 is not come to.
        machine = ([[1, 2], [0, 2], [3, 3], [3, 3]], [False, False, True, False])
        self.assertEqual(means_from("ab", HALVES, machine), [(2, 1), (2, 1), (0, 1), None])
        for numbers, told in (
            ([(2, 1), (2, 1), (0, 1), None], True),
            ([(4, 2), (20, 10), (0, 3), None], True),
            ([(3, 1), (5, 2), (0, 1), None], True),
            ([(2, 1), (2, 1), (1, 10 ** 40), None], False),
            ([(3, 1), (3, 1), (1, 10 ** 40), None], True),
            ([(2, 1), (2, 1), (-1, 10 ** 40), None], False),
            ([(2 * 10 ** 40 - 1, 10 ** 40), (2, 1), (0, 1), None], False),
            ([(2, 1), (2 * 10 ** 40 - 1, 10 ** 40), (0, 1), None], False),
            ([None, None, (0, 1), None], False),
            ([None, (2, 1), (0, 1), None], False),
            ([(2, 1), None, (0, 1), None], False),
            ([(2, 1), (2, 1), None, None], False),
            ([(2, 1), (2, 1), (0, 1), (10 ** 60, 1)], False),
            ([(2, 1), (2, 1), (0, 1)], False),
            ([(2, 1), (2, 1), (0, 1), None, None], False),
            ([], False),
        ):
            self.assertIs(check_new(self, is_high_means, "ab", HALVES, machine, numbers), told, numbers)
        # A letter that is not drawn may lead to None.
        self.assertTrue(is_high_means("ab", [(0, 1), (1, 1)], machine, [(1, 1), None, (0, 1), None]))
        self.assertFalse(is_high_means("ab", [(1, 1), (0, 1)], machine, [(1, 1), None, (0, 1), None]))
        self.assertTrue(is_high_means("a", [(1, 1)], ([[0]], [True]), [(0, 1)]))
        self.assertFalse(is_high_means("a", [(1, 1)], ([[0]], [True]), [None]))

    def test_low_means(self):
        machine = ([[1, 2], [0, 2], [3, 3], [3, 3]], [False, False, True, False])
        for numbers, told in (
            ([(2, 1), (2, 1), (0, 1), (0, 1)], True),
            ([(2, 1), (2, 1), (0, 1), (1, 1)], True),
            ([(2, 1), (2, 1), (0, 1), (10 ** 60, 1)], True),
            ([(-1, 1), (-7, 2), (-2, 1), (-10 ** 60, 1)], False),
            ([(-2, 1), (-3, 2), (-2, 1), (-10 ** 60, 1)], True),
            ([(2 * 10 ** 40 + 1, 10 ** 40), (2, 1), (0, 1), (0, 1)], False),
            ([(2, 1), (2, 1), (1, 10 ** 40), (0, 1)], False),
            ([(2, 1), (2, 1), (0, 1)], False),
            ([(2, 1), (2, 1), (0, 1), (0, 1), (0, 1)], False),
        ):
            self.assertIs(check_new(self, is_low_means, "ab", HALVES, machine, numbers), told, numbers)

    def test_great_machines(self):
        # There is no limit on the states here.
        machine = cycle(60, 59)
        self.assertTrue(is_high("a", [(1, 1)], machine, [(1, 1)] * 60))
        self.assertTrue(is_low("a", [(1, 1)], machine, [(1, 1)] * 60))
        means = [(59 - state, 1) for state in range(60)]
        self.assertTrue(is_high_means("a", [(1, 1)], machine, means))
        self.assertTrue(is_low_means("a", [(1, 1)], machine, means))
        self.assertFalse(is_high("a", [(1, 1)], machine, [(1, 1)] * 59))
        rng = random.Random(1303)
        letters = "abcdef"
        source = [(1, 100), (3, 50), (1, 25), (3, 20), (7, 100), (67, 100)]
        machine = ([[rng.randrange(60) for _ in letters] for _ in range(60)], [k == 59 for k in range(60)])
        chances = [pair(told) for told in chances_by_state(source, machine)]
        self.assertTrue(is_high(letters, source, machine, chances))
        self.assertTrue(is_low(letters, source, machine, chances))


if __name__ == "__main__":
    unittest.main()
