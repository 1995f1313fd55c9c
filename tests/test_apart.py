import random
import unittest

import moves as slow
from helpers import all_words, check_new, cycle, some_machine, some_machines, taken_words

from hallofwords.apart import apart, between, is_pair_numbers, pair_numbers, shows_between
from hallofwords.errors import BadSize
from hallofwords.folds import met
from hallofwords.machines import first_word, is_none
from hallofwords.making import machine_of, word_machine
from hallofwords.near import distance, nearest

NOTHING = ([[0, 0]], [False])
EVERY = ([[0, 0]], [True])
COSTS = [(1, 1, 1), (1, 1, 3), (2, 1, 1), (1, 3, 2), (9, 9, 9), (3, 4, 5)]


def of_states(many):
    """A machine over the letters ab with so many states that takes the word without signs alone."""
    return ([[min(k + 1, many - 1)] * 2 for k in range(many)], [k == 0 for k in range(many)])


def slow_pair_numbers(letters, first, second, costs):
    """The least costs, made lesser and lesser until no move makes one lesser."""
    great = 10 ** 6
    found = {(p, q): 0 if first[1][p] and second[1][q] else great
             for p in range(len(first[0])) for q in range(len(second[0]))}
    before = None
    while found != before:
        before = dict(found)
        for p, q in found:
            for at in range(len(letters)):
                x = first[0][p][at]
                limits = [found[p, second[0][q][at]] + costs[0], found[x, q] + costs[1], found[x, second[0][q][at]]]
                limits += [found[x, second[0][q][k]] + costs[2] for k in range(len(letters)) if k != at]
                found[p, q] = min(found[p, q], *limits)
    return [[None if found[p, q] >= great else found[p, q] for q in range(len(second[0]))] for p in range(len(first[0]))]


def slow_is_pair_numbers(letters, first, second, numbers, costs):
    """Whether the paper is right, straight from point 68."""
    if len(numbers) != len(first[0]) or any(len(row) != len(second[0]) for row in numbers):
        return False
    great = 10 ** 100
    value = [[great if number is None else number for number in row] for row in numbers]
    for p, row in enumerate(value):
        for q, number in enumerate(row):
            limits = [0] if first[1][p] and second[1][q] else []
            for x in range(len(letters)):
                limits += [value[p][second[0][q][x]] + costs[0], value[first[0][p][x]][q] + costs[1]]
                for y in range(len(letters)):
                    limits.append(value[first[0][p][x]][second[0][q][y]] + (costs[2] if x != y else 0))
            if number > min(great, *limits):
                return False
    return True


class BetweenTest(unittest.TestCase):
    def test_against_all_lists_of_moves(self):
        rng = random.Random(521)
        for costs in COSTS:
            for letters in ("ab", "ba"):
                lists = slow.least_lists(letters, 5, costs)
                for _ in range(60):
                    words = rng.sample(all_words(letters, 2), rng.randint(1, 3))
                    others = rng.sample(all_words(letters, 3), rng.randint(1, 3))
                    best = min([lists[one, other] for one in words for other in others],
                               key=lambda moves: slow.key(letters, moves, costs))
                    told = between(letters, word_machine(letters, words), word_machine(letters, others), costs=costs)
                    self.assertEqual(told, (slow.cost(best, costs), list(best)))

    def test_common_words(self):
        for letters, first in some_machines(522, 60, most=5, letters=("ab",)):
            second = some_machine(random.Random(len(first[0])), letters, 5)
            common = met(letters, [first, second])
            told = between(letters, first, second)
            if not is_none(letters, common):
                self.assertEqual(told, (0, [("keep", sign) for sign in first_word(letters, common)]))
            elif is_none(letters, first) or is_none(letters, second):
                self.assertIsNone(told)
            else:
                self.assertGreater(told[0], 0)
                self.assertLess(len(told[1]), len(first[0]) * len(second[0]))

    def test_machines_without_words(self):
        self.assertIsNone(between("ab", NOTHING, EVERY))
        self.assertIsNone(between("ab", EVERY, NOTHING))
        self.assertEqual(pair_numbers("ab", NOTHING, ([[1, 1], [1, 1]], [True, False])), [[None, None]])

    def test_forty_states(self):
        self.assertEqual(between("ab", of_states(40), of_states(40)), (0, []))
        self.assertEqual(len(pair_numbers("ab", of_states(40), of_states(40))), 40)
        for call in (between, pair_numbers):
            for first, second, size in ((41, 40, 41), (40, 41, 41), (41, 60, 41), (60, 41, 60), (1, 42, 42), (42, 1, 42)):
                with self.assertRaises(BadSize) as caught:
                    call("ab", of_states(first), of_states(second))
                self.assertEqual(caught.exception.size, size)

    def test_long_lists(self):
        one = machine_of("a", ("row", [("one", "a")] * 1 + [("times", ("times", ("one", "a"), 5, 5), 0, None)]))
        cost, moves = between("a", one, cycle(7, 0), costs=(9, 9, 9))
        self.assertEqual((cost, moves), (0, [("keep", "a")] * 21))
        self.assertEqual(between("ab", word_machine("ab", ["a" * 30]), word_machine("ab", ["b" * 30])),
                         (30, [("change", "a", "b")] * 30))


class PaperTest(unittest.TestCase):
    def machines(self, seed, number):
        rng = random.Random(seed)
        for letters, first in some_machines(seed, number, most=3):
            yield letters, first, some_machine(rng, letters, 3), rng.choice(COSTS)

    def test_made_up_machines(self):
        for letters, first, second, costs in self.machines(523, 150):
            numbers = pair_numbers(letters, first, second, costs=costs)
            self.assertEqual(numbers, slow_pair_numbers(letters, first, second, costs))
            self.assertIs(is_pair_numbers(letters, first, second, numbers, costs=costs), True)
            told = between(letters, first, second, costs=costs)
            cost, moves = told if told else (None, None)
            self.assertEqual(numbers[0][0], cost)
            self.assertIs(shows_between(letters, first, second, cost, moves, numbers, costs=costs), True)

    def test_changed_papers(self):
        seen = {True: 0, False: 0}
        for letters, first, second, costs in self.machines(524, 60):
            numbers = pair_numbers(letters, first, second, costs=costs)
            for p, row in enumerate(numbers):
                for q, number in enumerate(row):
                    for change in (1, -1, -10 ** 30, None, 10 ** 30):
                        other = [list(values) for values in numbers]
                        other[p][q] = change if number is None or change is None else number + change
                        right = slow_is_pair_numbers(letters, first, second, other, costs)
                        seen[right] += 1
                        self.assertIs(is_pair_numbers(letters, first, second, other, costs=costs), right)
                        if number is not None and (change is None or change > 0):
                            self.assertFalse(right)
        self.assertGreater(min(seen.values()), 100)

    def test_other_lengths(self):
        first, second = word_machine("ab", ["ab"]), word_machine("ab", ["b", "bb"])
        numbers = pair_numbers("ab", first, second)
        for wrong in ([], numbers[1:], numbers + numbers[:1], [row + [0] for row in numbers], [row[1:] for row in numbers],
                      [[]] + numbers[1:], [list(column) for column in zip(*numbers)][:-1]):
            self.assertIs(is_pair_numbers("ab", first, second, wrong), False)
            self.assertIs(shows_between("ab", first, second, None, None, wrong), False)

    def test_what_shows_a_cost(self):
        first, second = word_machine("ab", ["ab"]), word_machine("ab", ["b", "bb"])
        numbers = pair_numbers("ab", first, second)
        for moves in ([("change", "a", "b"), ("keep", "b")], [("drop", "a"), ("keep", "b")]):
            self.assertIs(shows_between("ab", first, second, 1, moves, numbers), True)
        moves = [("change", "a", "b"), ("keep", "b")]
        low = [[0, *numbers[0][1:]]] + numbers[1:]
        self.assertIs(is_pair_numbers("ab", first, second, low), True)
        for wrong in (
            (0, moves, numbers), (2, moves, numbers), (None, moves, numbers), (1, None, numbers), (None, None, numbers),
            (1, moves, low), (0, moves, low), (1, moves, [[2, *numbers[0][1:]]] + numbers[1:]),
            (1, moves[:1], numbers), (1, moves + [("put", "b")], numbers), (1, [], numbers),
            (1, [("change", "a", "b"), ("keep", "a")], numbers), (1, [("keep", "a"), ("drop", "b")], numbers),
            (1, [("change", "b", "a"), ("keep", "b")], numbers), (1, [("put", "b"), ("keep", "b")], numbers),
            (1, [("change", "a"), ("keep", "b")], numbers), (1, [("change", "a", "b"), ("keep", "b", "b")], numbers),
            (1, [()], numbers), (1, [("drop", "a"), ("put", "b"), ("drop", "b"), ("put", "b")], numbers),
        ):
            self.assertIs(shows_between("ab", first, second, *wrong), False, wrong)
        self.assertIs(shows_between("ab", first, second, 1, moves, numbers, costs=(1, 1, 2)), False)
        self.assertIs(shows_between("ab", second, first, 1, moves, numbers), False)

    def test_what_shows_that_there_is_none(self):
        self.assertIs(shows_between("ab", NOTHING, EVERY, None, None, [[None]]), True)
        for wrong in ((None, [], [[None]]), (0, None, [[None]]), (0, [], [[0]]), (0, [], [[None]]), (None, None, [[0]]),
                      (None, None, [[]]), (None, None, [])):
            self.assertIs(shows_between("ab", NOTHING, EVERY, *wrong), False)
        self.assertIs(shows_between("ab", EVERY, EVERY, None, None, [[None]]), False)

    def test_no_error_for_great_machines(self):
        numbers = [[0] * 60 for _ in range(60)]
        self.assertIs(is_pair_numbers("ab", of_states(60), of_states(60), numbers), True)
        self.assertIs(shows_between("ab", of_states(60), of_states(60), 0, [], numbers), True)


class ApartTest(unittest.TestCase):
    def test_example_of_point_69(self):
        self.assertEqual(apart("ab", word_machine("ab", ["aa", "bbb"])),
                         (3, [("change", "a", "b"), ("change", "a", "b"), ("put", "b")]))

    def test_no_word_one_word_two_words(self):
        self.assertIsNone(apart("ab", NOTHING))
        self.assertIsNone(apart("ab", word_machine("ab", [""])))
        self.assertIsNone(apart("ab", word_machine("ab", ["abba"])))
        self.assertEqual(apart("ab", word_machine("ab", ["", "a"])), (1, [("put", "a")]))
        self.assertEqual(apart("ab", word_machine("ab", ["", "a"]), costs=(3, 2, 1)), (2, [("drop", "a")]))
        self.assertEqual(apart("ab", word_machine("ab", ["ab", "abb"])), (1, [("keep", "a"), ("keep", "b"), ("put", "b")]))
        self.assertEqual(apart("ab", word_machine("ab", ["ab", "bb"])), (1, [("change", "a", "b"), ("keep", "b")]))
        self.assertEqual(apart("ba", word_machine("ba", ["ab", "bb"])), (1, [("change", "b", "a"), ("keep", "b")]))
        self.assertEqual(apart("ab", EVERY), (1, [("change", "a", "b")]))
        self.assertEqual(apart("a", ([[0]], [True])), (1, [("put", "a")]))

    def test_against_all_lists_of_moves(self):
        rng = random.Random(525)
        for costs, letters in ((1, 1, 1), "ab"), ((1, 1, 3), "ba"), ((3, 4, 5), "ab"):
            lists = slow.least_lists(letters, 6, costs)
            for _ in range(150):
                words = rng.sample(all_words(letters, 3), rng.randint(2, 4))
                best = min([lists[one, other] for one in words for other in words if one != other],
                           key=lambda moves: slow.key(letters, moves, costs))
                told = apart(letters, word_machine(letters, words), costs=costs)
                self.assertEqual(told, (slow.cost(best, costs), list(best)), (words, costs))

    def test_made_up_machines(self):
        for letters, machine in some_machines(526, 100, most=4, letters=("a", "ab")):
            words = taken_words(letters, machine, 6)
            for costs in ((1, 1, 1), (2, 3, 4)):
                told = apart(letters, machine, costs=costs)
                least = min([slow.word_cost(one, other, costs) for one in words for other in words if one != other],
                            default=None)
                if least is None:
                    self.assertTrue(told is None or len(slow.written(told[1])) > 6 or len(slow.read(told[1])) > 6)
                    continue
                self.assertLessEqual(told[0], least)
                one, other = slow.read(told[1]), slow.written(told[1])
                self.assertNotEqual(one, other)
                self.assertEqual(slow.cost(told[1], costs), told[0])
                if max(len(one), len(other)) <= 6:
                    self.assertEqual(told[0], least)
                    self.assertIn(one, words)
                    self.assertIn(other, words)

    def test_twenty_states(self):
        self.assertIsNone(apart("ab", of_states(20)))
        for many in (21, 41, 60):
            with self.assertRaises(BadSize) as caught:
                apart("ab", of_states(many))
            self.assertEqual(caught.exception.size, many)
        code = word_machine("ab", ["aaaaa", "bbbbb", "abbba"])
        self.assertEqual(apart("ab", code)[0], 2)

    def test_point_70(self):
        for words in (["aaaaa", "bbbbb"], ["aaa", "bbbab"], ["ab", "bbbb", "aaaaaa"], ["abab"]):
            machine = word_machine("ab", words)
            told = apart("ab", machine)
            for word in all_words("ab", 6):
                number = distance("ab", machine, word)
                if told is None or 2 * number < told[0]:
                    self.assertEqual(len(nearest("ab", machine, word, most=64)), 1)
                for one in words:
                    if told is not None and 2 * slow.word_cost(one, word, (1, 1, 1)) < told[0]:
                        self.assertEqual(nearest("ab", machine, word, most=64), [one])

    def test_nothing_modified(self):
        first, second = word_machine("ab", ["ab"]), word_machine("ab", ["b", "bb"])
        check_new(self, between, "ab", first, second, costs=(2, 2, 2))
        numbers = check_new(self, pair_numbers, "ab", first, second)
        check_new(self, is_pair_numbers, "ab", first, second, numbers)
        check_new(self, shows_between, "ab", first, second, 1, [("drop", "a"), ("keep", "b")], numbers)
        check_new(self, apart, "ab", second, costs=(2, 2, 2))


if __name__ == "__main__":
    unittest.main()
