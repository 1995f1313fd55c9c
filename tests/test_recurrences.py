import random
import unittest
from fractions import Fraction

from helpers import check_new, counter, cycle, some_machines

from hallofwords.errors import BadSize
from hallofwords.folds import joined, rowed
from hallofwords.machines import least
from hallofwords.making import machine_of, word_machine
from hallofwords.numbers import count
from hallofwords.recurrences import count_rest, is_recurrence, parting_length, recurrence, square

NOTHING = ([[0, 0]], [False])
FIB = ([[1, 0], [2, 0], [2, 2]], [True, True, False])


def determinant(rows):
    """The determinant, by fractions."""
    rows = [[Fraction(number) for number in row] for row in rows]
    found = Fraction(1)
    for at in range(len(rows)):
        pivot = next((k for k in range(at, len(rows)) if rows[k][at]), None)
        if pivot is None:
            return 0
        if pivot != at:
            rows[at], rows[pivot] = rows[pivot], rows[at]
            found = -found
        found *= rows[at][at]
        for k in range(at + 1, len(rows)):
            factor = rows[k][at] / rows[at][at]
            rows[k] = [one - factor * other for one, other in zip(rows[k], rows[at])]
    return found


def slow_counts(machine, most):
    ways = [1 if state == 0 else 0 for state in range(len(machine[0]))]
    found = []
    for _ in range(most + 1):
        found.append(sum(many for many, end in zip(ways, machine[1]) if end))
        moved = [0] * len(ways)
        for many, row in zip(ways, machine[0]):
            for state in row:
                moved[state] += many
        ways = moved
    return found


def is_right(letters, machine, numbers, length):
    """Whether these are the recurrence, straight from point 43."""
    states = len(least(letters, machine)[0])
    many = len(numbers)
    if length < 0 or length > 1000:
        return False
    counts = slow_counts(machine, length + 2 * many + states + 2)

    def holds(n):
        return counts[n] == sum(number * counts[n - k] for k, number in enumerate(numbers, start=1))

    rows = [counts[length + i:length + i + many] for i in range(many)]
    if determinant(rows) == 0 or many and numbers[-1] == 0:
        return False
    if not all(holds(n) for n in range(length + many, length + many + states)):
        return False
    return length == 0 or not holds(length + many - 1)


class RecurrenceTest(unittest.TestCase):
    def test_examples(self):
        for letters, machine, told in (
            ("ab", NOTHING, ([], 0)),
            ("ab", ([[0, 0]], [True]), ([2], 0)),
            ("ab", FIB, ([1, 1], 0)),
            ("a", counter(0), ([], 1)),
            ("a", counter(9), ([], 10)),
            ("ab", word_machine("ab", ["ab", "bba"]), ([], 4)),
            ("a", cycle(4, 1), ([0, 0, 0, 1], 0)),
            ("a", cycle(4, 1, 3), ([0, 1], 0)),
            ("a", ([[1], [2], [3], [2]], [True, True, True, False]), ([0, 1], 2)),
            ("a", ([[1], [1]], [False, True]), ([1], 1)),
            ("ab", ([[0, 1], [1, 1]], [False, True]), ([3, -2], 0)),
            ("ab", ([[0, 1], [2, 1], [2, 2]], [True, True, False]), ([2, -1], 0)),
        ):
            self.assertEqual(recurrence(letters, machine), told)
            self.assertIs(is_recurrence(letters, machine, *told), True)
            self.assertTrue(is_right(letters, machine, *told))

    def test_made_up_machines(self):
        for letters, machine in some_machines(411, 300, most=7):
            numbers, length = recurrence(letters, machine)
            self.assertTrue(all(type(number) is int for number in numbers))
            self.assertTrue(is_right(letters, machine, numbers, length))
            self.assertLessEqual(len(numbers) + length, len(least(letters, machine)[0]))
            counts = slow_counts(machine, 60)
            many = len(numbers)
            for n in range(length + many, 61):
                self.assertEqual(counts[n], sum(number * counts[n - k] for k, number in enumerate(numbers, start=1)))
            rows = square(letters, machine)
            self.assertEqual(rows, [counts[length + i:length + i + many] for i in range(many)])
            self.assertNotEqual(determinant(rows), 0)

    def test_rings_one_behind_the_other(self):
        one = ("times", ("row", [("one", "a")] * 2), 0, None)
        other = ("times", ("row", [("one", "b")] * 3), 0, None)
        for rule in (("row", [one, other]), ("row", [one, other, one]), ("row", [one, one, other, ("one", "ab")])):
            machine = machine_of("ab", rule)
            numbers, length = recurrence("ab", machine)
            self.assertTrue(is_right("ab", machine, numbers, length))
        self.assertEqual(recurrence("ab", machine_of("ab", ("row", [one, other]))), ([0, 1, 1, 0, -1], 0))

    def test_states_of_the_least_machine(self):
        for many in (23, 24):
            self.assertEqual(recurrence("a", cycle(many, 1)), ([0] * (many - 1) + [1], 0))
            self.assertEqual(count_rest("a", cycle(many, 1), many + 1, 10), 1)
        self.assertEqual(recurrence("a", counter(22)), ([], 23))
        for machine in (cycle(25, 1), counter(23)):
            for call in (recurrence, square, lambda letters, told: is_recurrence(letters, told, [], 0),
                         lambda letters, told: is_recurrence(letters, told, [0] * 24 + [1], -5),
                         lambda letters, told: count_rest(letters, told, 0, 1)):
                with self.assertRaises(BadSize) as caught:
                    call("a", machine)
                self.assertEqual(caught.exception.size, 25)

    def test_more_states_than_the_least_machine(self):
        doubled = cycle(48, *[k for k in range(48) if k % 24 == 1])
        self.assertEqual(recurrence("a", doubled), ([0] * 23 + [1], 0))
        self.assertIs(is_recurrence("a", doubled, [0] * 23 + [1], 0), True)
        self.assertEqual(len(square("a", doubled)), 24)
        self.assertEqual(count_rest("a", doubled, 10 ** 30, 7), 1 if 10 ** 30 % 24 == 1 else 0)
        doubled = cycle(50, 1, 26)
        with self.assertRaises(BadSize) as caught:
            recurrence("a", doubled)
        self.assertEqual(caught.exception.size, 25)
        unreached = (FIB[0] + [[k + 3, k] for k in range(57)], FIB[1] + [k % 2 == 0 for k in range(57)])
        self.assertEqual(recurrence("ab", unreached), ([1, 1], 0))

    def test_changed_recurrences(self):
        rng = random.Random(412)
        for letters, machine in some_machines(413, 150, most=6):
            numbers, length = recurrence(letters, machine)
            wrong = [(numbers + [0], length), ([0] + numbers, length), (numbers + [1], length), (numbers, length + 1),
                     (numbers, length - 1), (numbers, -length - 1), (numbers, 10 ** 40), (numbers, -10 ** 40),
                     (numbers * 2 + [1], length), ([0] * 60, 0), ([10 ** 50] * 60, length), ([1] * 60, 10 ** 40)]
            if numbers:
                wrong += [(numbers[:-1], length), (numbers[1:], length), (numbers[:-1] + [0], length), ([], length)]
                k = rng.randrange(len(numbers))
                wrong.append((numbers[:k] + [numbers[k] + rng.choice([-1, 1, 10 ** 30])] + numbers[k + 1:], length))
            for told in wrong:
                self.assertIs(is_recurrence(letters, machine, *told), False, (machine, told))

    def test_judge_agrees_with_point_43(self):
        rng = random.Random(414)
        for letters, machine in some_machines(415, 120, most=4, letters=("a", "ab")):
            for _ in range(20):
                told = ([rng.choice([-1, 0, 1, 1, 2]) for _ in range(rng.randrange(4))], rng.randrange(-1, 4))
                self.assertIs(is_recurrence(letters, machine, *told), is_right(letters, machine, *told))


class RestTest(unittest.TestCase):
    def test_made_up_machines(self):
        rng = random.Random(416)
        for letters, machine in some_machines(417, 200, most=7):
            counts = slow_counts(machine, 80)
            for length in list(range(12)) + [rng.randrange(81) for _ in range(4)]:
                divisor = rng.choice([1, 2, 3, 10, 97, 10 ** 9])
                self.assertEqual(count_rest(letters, machine, length, divisor), counts[length] % divisor)

    def test_great_lengths(self):
        every = ([[0] * 3], [True])
        for length in (0, 1, 10 ** 30, 10 ** 30 - 1):
            for divisor in (1, 2, 10 ** 9, 999999937):
                self.assertEqual(count_rest("abc", every, length, divisor), pow(3, length, divisor))
                self.assertEqual(count_rest("ab", NOTHING, length, divisor), 0)
        self.assertEqual(count_rest("a", cycle(24, 16), 10 ** 30, 10 ** 9), 1)
        self.assertEqual(count_rest("a", cycle(24, 16), 10 ** 30 + 1, 10 ** 9), 0)
        self.assertEqual(count_rest("a", cycle(24, 16), 10 ** 30, 1), 0)
        self.assertEqual(count_rest("a", counter(9), 10 ** 30, 5), 0)
        # The numbers of words without the middle "aa" are those of Fibonacci, whose rests by 10 come again after 60.
        self.assertEqual(count_rest("ab", FIB, 10 ** 30, 10), count("ab", FIB, 10 ** 30 % 60) % 10)

    def test_negative_numbers_in_the_list(self):
        machine = ([[0, 1], [1, 1]], [False, True])
        for length in (0, 1, 5, 200, 10 ** 30):
            self.assertEqual(count_rest("ab", machine, length, 10 ** 9), (pow(2, length, 10 ** 9) - 1) % 10 ** 9)


class PartingLengthTest(unittest.TestCase):
    def test_made_up_machines(self):
        parted = 0
        machines = [told for letters, told in some_machines(418, 60, most=4, letters=("ab",))]
        for first in machines:
            for second in machines[:20]:
                most = len(first[0]) + len(second[0])
                pairs = list(zip(slow_counts(first, 3 * most), slow_counts(second, 3 * most)))
                unlike = [n for n, (one, other) in enumerate(pairs) if one != other]
                self.assertEqual(parting_length("ab", first, second), unlike[0] if unlike else None)
                parted += bool(unlike)
        self.assertGreater(parted, 100)

    def test_same_numbers_and_unlike_words(self):
        self.assertIsNone(parting_length("ab", word_machine("ab", ["a", "bb"]), word_machine("ab", ["b", "ab"])))
        self.assertIsNone(parting_length("ab", ([[0, 1], [1, 1]], [True, False]), ([[1, 0], [1, 1]], [True, False])))

    def test_parted_late(self):
        self.assertEqual(parting_length("a", cycle(60, 0), cycle(59, 0)), 59)
        one, other = cycle(60, *range(1, 60)), cycle(59, *range(1, 59))
        self.assertEqual(parting_length("a", one, other), 59)
        late = ([[k + 1] for k in range(59)] + [[59]], [False] * 59 + [True])
        self.assertEqual(parting_length("a", late, ([[0]], [False])), 59)
        # For the first time at the length that is 2 less than the numbers of states together.
        one, other = ([[1], [0]], [False, True]), ([[2], [0], [1]], [False, False, True])
        self.assertEqual(parting_length("a", one, other), 3)
        self.assertEqual(parting_length("ab", ([[0, 0]], [False]), ([[2, 0], [1, 2], [1, 1]], [False, True, False])), 2)
        apart = joined("a", [cycle(6, 5), cycle(7, 6)])
        self.assertEqual(parting_length("a", apart, cycle(6, 5)), 6)

    def test_no_error_for_many_states(self):
        self.assertIsNone(parting_length("a", cycle(60, 7), cycle(60, 7)))
        self.assertIsNone(parting_length("ab", rowed("ab", FIB, FIB), rowed("ab", FIB, FIB)))

    def test_nothing_modified(self):
        check_new(self, recurrence, "ab", FIB)
        check_new(self, square, "ab", FIB)
        check_new(self, is_recurrence, "ab", FIB, [1, 1], 0)
        check_new(self, count_rest, "ab", FIB, 100, 7)
        check_new(self, parting_length, "ab", FIB, FIB)


if __name__ == "__main__":
    unittest.main()
