import random
import unittest

import moves as slow
from helpers import all_words, check_new, some_machine, some_machines, taken, taken_words

from hallofwords.errors import BadNumber, BadSize, TooGreat, TooMany
from hallofwords.machines import is_taken, least, words_upto
from hallofwords.making import machine_of, word_machine
from hallofwords.near import (
    around,
    check_costs,
    cost_of,
    distance,
    is_numbers,
    moves_of,
    nearest,
    numbers_of,
    shows_distance,
    words_of,
)

NOTHING = ([[0, 0]], [False])
EVERY = ([[0, 0]], [True])
BB = word_machine("ab", ["bb"])
COSTS = [(1, 1, 1), (1, 1, 3), (2, 1, 1), (1, 3, 2), (9, 9, 9), (3, 4, 5)]


def chain(states):
    """The machine over the letters ab with so many states that takes one word of a alone."""
    return ([[min(k + 1, states - 1), states - 1] for k in range(states)], [k == states - 2 for k in range(states)])


def from_state(machine, state):
    """The machine that begins in another state."""
    many = len(machine[0])
    names = [state] + [k for k in range(many) if k != state]
    return ([[names.index(reached) for reached in machine[0][name]] for name in names],
            [machine[1][name] for name in names])


def slow_numbers(letters, machine, word, costs, most):
    """The least costs from each state and place, by all words of at most so many signs."""
    found = []
    for state in range(len(machine[0])):
        words = taken_words(letters, from_state(machine, state), most)
        found.append([min([slow.word_cost(word[place:], other, costs) for other in words], default=None)
                      for place in range(len(word) + 1)])
    return found


def slow_is_numbers(letters, machine, word, numbers, costs):
    """Whether the paper is right, straight from point 64."""
    table, ends = machine
    if len(numbers) != len(table) or any(len(row) != len(word) + 1 for row in numbers):
        return False
    great = 10 ** 100

    def value(number):
        return great if number is None else number

    for q, row in enumerate(table):
        if ends[q] and value(numbers[q][-1]) > 0:
            return False
        for i in range(len(word) + 1):
            limits = [value(numbers[reached][i]) + costs[0] for reached in row]
            if i < len(word):
                limits.append(value(numbers[q][i + 1]) + costs[1])
                for y, reached in zip(letters, row):
                    limits.append(value(numbers[reached][i + 1]) + (0 if y == word[i] else costs[2]))
            if value(numbers[q][i]) > min(great, *limits):
                return False
    return True


class CostsTest(unittest.TestCase):
    def test_right_ones(self):
        for costs in ((1, 1, 1), (9, 9, 9), (1, 9, 5)):
            self.assertIsNone(check_costs(costs))

    def test_wrong_ones(self):
        for value in (0, 10, -1, True, False, None, "1", 1.0, (1,), [1], 10 ** 30):
            for at in range(3):
                costs = [1, 9, 5]
                costs[at] = value
                with self.assertRaises(BadNumber):
                    check_costs(tuple(costs))


class MovesTest(unittest.TestCase):
    def test_words_of(self):
        for moves, told in (
            ([], ("", "")),
            ([("keep", "a")], ("a", "a")),
            ([("change", "a", "b")], ("a", "b")),
            ([("put", "b")], ("", "b")),
            ([("drop", "b")], ("b", "")),
            ([("put", "b"), ("drop", "a"), ("keep", "b"), ("change", "b", "a"), ("drop", "b")], ("abbb", "bba")),
            ([("keep", "a")] * 4000, ("a" * 4000, "a" * 4000)),
        ):
            self.assertEqual(words_of("ab", moves), told)

    def test_tuples_that_are_no_moves(self):
        for wrong in (
            (), ("keep",), ("keep", "a", "a"), ("keep", "c"), ("keep", ""), ("keep", "ab"), ("put",), ("put", "a", "b"),
            ("put", "A"), ("put", ""), ("drop",), ("drop", "aa"), ("drop", "a", "a"), ("change", "a"), ("change",),
            ("change", "a", "a"), ("change", "b", "b"), ("change", "a", "c"), ("change", "c", "a"), ("change", "", "a"),
            ("change", "a", ""), ("change", "a", "b", "a"), ("change", "ab", "a"), ("Keep", "a"), ("", "a"), ("a",),
            ("swap", "a", "b"), ("kee", "a"), ("keep ", "a"), ("a", "keep"),
        ):
            self.assertIsNone(words_of("ab", [wrong]), wrong)
            self.assertIsNone(words_of("ab", [("keep", "a"), wrong, ("put", "b")]), wrong)

    def test_cost_of(self):
        moves = [("put", "b"), ("drop", "a"), ("keep", "b"), ("change", "b", "a"), ("drop", "b")]
        self.assertEqual(cost_of(moves), 4)
        self.assertEqual(cost_of(moves, costs=(1, 2, 5)), 10)
        self.assertEqual(cost_of(moves, costs=(9, 1, 1)), 12)
        self.assertEqual(cost_of([]), 0)
        self.assertEqual(cost_of([("keep", "a")] * 9, costs=(9, 9, 9)), 0)


class DistanceTest(unittest.TestCase):
    def test_example_of_point_63(self):
        self.assertEqual(distance("ab", BB, "ab"), 1)
        self.assertEqual(moves_of("ab", BB, "ab"), [("change", "a", "b"), ("keep", "b")])
        self.assertEqual(distance("ab", BB, "ab", costs=(1, 1, 3)), 2)
        self.assertEqual(moves_of("ab", BB, "ab", costs=(1, 1, 3)), [("put", "b"), ("drop", "a"), ("keep", "b")])

    def test_machines_that_take_nothing(self):
        for machine in (NOTHING, ([[1, 0], [1, 1], [2, 2]], [False, False, True])):
            for word in ("", "ab"):
                self.assertIsNone(distance("ab", machine, word))
                self.assertIsNone(moves_of("ab", machine, word))
                self.assertEqual(nearest("ab", machine, word, most=5), [])
        self.assertEqual(numbers_of("ab", NOTHING, "ab"), [[None, None, None]])

    def test_against_all_lists_of_moves(self):
        rng = random.Random(501)
        for costs in COSTS:
            for letters in ("ab", "ba"):
                lists = slow.least_lists(letters, 5, costs)
                for _ in range(25):
                    words = rng.sample(all_words(letters, 3), rng.randint(1, 4))
                    machine = word_machine(letters, words)
                    for word in all_words(letters, 2):
                        best = min([lists[word, other] for other in words],
                                   key=lambda moves: slow.key(letters, moves, costs))
                        self.assertEqual(moves_of(letters, machine, word, costs=costs), list(best))
                        self.assertEqual(distance(letters, machine, word, costs=costs), slow.cost(best, costs))

    def test_order_by_each_part(self):
        """Lists of the same cost: fewer moves; then the kind; then the letter x; then the letter y."""
        one = word_machine("ab", ["ab"])
        self.assertEqual(moves_of("ab", one, "ba", costs=(1, 1, 1)), [("change", "b", "a"), ("change", "a", "b")])
        self.assertEqual(moves_of("ab", one, "ba", costs=(1, 1, 2)), [("put", "a"), ("keep", "b"), ("drop", "a")])
        self.assertEqual(moves_of("ab", word_machine("ab", ["a"]), "aa"), [("keep", "a"), ("drop", "a")])
        self.assertEqual(moves_of("ab", word_machine("ab", ["b"]), "aa"), [("change", "a", "b"), ("drop", "a")])
        both = word_machine("abc", ["b", "c"])
        self.assertEqual(moves_of("abc", both, "a"), [("change", "a", "b")])
        self.assertEqual(moves_of("acb", word_machine("acb", ["b", "c"]), "a"), [("change", "a", "c")])
        self.assertEqual(moves_of("abc", both, ""), [("put", "b")])
        self.assertEqual(moves_of("cab", word_machine("cab", ["b", "c"]), ""), [("put", "c")])
        self.assertEqual(moves_of("ab", word_machine("ab", ["ab", "ba"]), ""), [("put", "a"), ("put", "b")])
        self.assertEqual(moves_of("ab", word_machine("ab", ["b"]), "a", costs=(1, 1, 2)), [("change", "a", "b")])
        self.assertEqual(moves_of("ab", word_machine("ab", ["b"]), "a", costs=(1, 1, 3)), [("put", "b"), ("drop", "a")])

    def test_made_up_machines(self):
        rng = random.Random(502)
        for letters, machine in some_machines(503, 60, most=3, letters=("ab", "ba")):
            costs = rng.choice(COSTS)
            for word in all_words(letters, 3):
                numbers = numbers_of(letters, machine, word, costs=costs)
                self.assertEqual(numbers, slow_numbers(letters, machine, word, costs, 6))
                told = distance(letters, machine, word, costs=costs)
                moves = moves_of(letters, machine, word, costs=costs)
                self.assertEqual(told, numbers[0][0])
                self.assertIs(told == 0, taken(letters, machine, word))
                self.assertIs(shows_distance(letters, machine, word, told, moves, numbers, costs=costs), True)

    def test_forty_states_and_signs(self):
        self.assertEqual(distance("ab", chain(40), "b" * 40), 40)
        self.assertEqual(moves_of("ab", chain(40), "b" * 40), [("change", "b", "a")] * 38 + [("drop", "b")] * 2)
        self.assertEqual(distance("ab", chain(40), "", costs=(9, 1, 1)), 38 * 9)
        calls = (distance, moves_of, numbers_of, lambda *told: nearest(*told, most=0))
        for call in calls:
            for machine, word, size in ((chain(41), "a", 41), (chain(41), "a" * 41, 41), (chain(40), "a" * 41, 41),
                                        (chain(40), "b" * 200, 200), (chain(60), "b" * 50, 60),
                                        (([[0, 0]] * 41, [True] * 41), "", 41)):
                with self.assertRaises(BadSize) as caught:
                    call("ab", machine, word)
                self.assertEqual(caught.exception.size, size)
        self.assertEqual(len(numbers_of("ab", chain(40), "b" * 40)), 40)


class PaperTest(unittest.TestCase):
    def test_changed_papers(self):
        rng = random.Random(504)
        seen = {True: 0, False: 0}
        for letters, machine in some_machines(505, 80, most=3):
            costs = rng.choice(COSTS)
            word = "".join(rng.choice(letters) for _ in range(rng.randrange(4)))
            numbers = numbers_of(letters, machine, word, costs=costs)
            self.assertIs(is_numbers(letters, machine, word, numbers, costs=costs), True)
            for q in range(len(numbers)):
                for i in range(len(word) + 1):
                    for change in (1, -1, 5, -10 ** 30, None, 10 ** 30):
                        other = [list(row) for row in numbers]
                        if change is None or other[q][i] is None:
                            other[q][i] = change
                        else:
                            other[q][i] += change
                        right = slow_is_numbers(letters, machine, word, other, costs)
                        seen[right] += 1
                        self.assertIs(is_numbers(letters, machine, word, other, costs=costs), right)
                        if numbers[q][i] is not None and (change is None or change > 0):
                            self.assertFalse(right)
        self.assertGreater(min(seen.values()), 200)

    def test_numbers_that_are_not_least(self):
        table = ([[1, 0], [1, 1]], [False, True])
        self.assertIs(is_numbers("ab", table, "bb", [[-3, -3, -3], [-3, -3, -3]]), True)
        self.assertIs(is_numbers("ab", table, "bb", [[1, 1, 1], [0, 0, 0]]), True)
        self.assertIs(is_numbers("ab", table, "bb", [[2, 1, 1], [0, 0, 0]]), False)
        self.assertIs(is_numbers("ab", table, "bb", [[1, 1, 1], [0, 0, 1]]), False)
        self.assertIs(is_numbers("ab", table, "bb", [[1, 1, 1], [0, 0, None]]), False)
        self.assertIs(is_numbers("ab", NOTHING, "a", [[None, None]]), True)
        self.assertIs(is_numbers("ab", NOTHING, "a", [[7, None]]), True)
        self.assertIs(is_numbers("ab", NOTHING, "a", [[None, 7]]), False)
        self.assertIs(is_numbers("ab", NOTHING, "a", [[7, 7]]), True)
        self.assertIs(is_numbers("ab", NOTHING, "a", [[8, 7]]), False)
        self.assertIs(is_numbers("ab", NOTHING, "a", [[7, 6]]), False)

    def test_other_lengths(self):
        numbers = numbers_of("ab", BB, "ab")
        for wrong in ([], numbers[:-1], numbers + [[0, 0, 0]], [row[:-1] for row in numbers], [row + [0] for row in numbers],
                      [[]] + numbers[1:], numbers[:-1] + [numbers[-1] + [-5]], [[] for _ in numbers]):
            self.assertIs(is_numbers("ab", BB, "ab", wrong), False)
            self.assertIs(shows_distance("ab", BB, "ab", 1, [("change", "a", "b"), ("keep", "b")], wrong), False)
            self.assertIs(shows_distance("ab", BB, "ab", None, None, wrong), False)

    def test_no_error_for_great_machines(self):
        machine = chain(60)
        word = "a" * 200
        numbers = [[0] * 201 for _ in range(60)]
        self.assertIs(is_numbers("ab", machine, word, numbers), True)
        self.assertIs(shows_distance("ab", machine, word, 142, [("keep", "a")] * 58 + [("drop", "a")] * 142, numbers), False)
        numbers = [[max(0, abs(200 - i - (58 - q))) if q <= 58 else None for i in range(201)] for q in range(60)]
        self.assertIs(shows_distance("ab", machine, word, 142, [("keep", "a")] * 58 + [("drop", "a")] * 142, numbers), True)

    def test_what_shows_a_distance(self):
        moves = [("put", "b"), ("drop", "a"), ("keep", "b")]
        costs = (1, 1, 3)
        numbers = numbers_of("ab", BB, "ab", costs=costs)
        self.assertIs(shows_distance("ab", BB, "ab", 2, moves, numbers, costs=costs), True)
        # Another list of the same cost.
        other = [("drop", "a"), ("put", "b"), ("keep", "b")]
        self.assertIs(shows_distance("ab", BB, "ab", 2, other, numbers, costs=costs), True)
        less = [[number if number is None else min(number, 2) for number in row] for row in numbers]
        self.assertIs(shows_distance("ab", BB, "ab", 2, moves, less, costs=costs), True)
        low = [[1, *numbers[0][1:]]] + numbers[1:]
        self.assertIs(is_numbers("ab", BB, "ab", low, costs=costs), True)
        for wrong in (
            (1, moves, numbers), (3, moves, numbers), (None, moves, numbers), (2, None, numbers), (None, None, numbers),
            (-2, moves, numbers), (10 ** 30, moves, numbers),
            (2, moves, low), (1, moves, low), (2, moves, [[3, *numbers[0][1:]]] + numbers[1:]),
            (2, moves, [[None, *numbers[0][1:]]] + numbers[1:]), (None, None, [[None, *numbers[0][1:]]] + numbers[1:]),
            (2, moves[:-1], numbers), (2, moves + [("keep", "b")], numbers), (2, [], numbers),
            (2, [("put", "b"), ("drop", "b"), ("keep", "b")], numbers),
            (2, [("put", "b"), ("drop", "a"), ("keep", "a")], numbers),
            (2, [("put", "a"), ("drop", "a"), ("keep", "b")], numbers),
            (2, [("change", "a", "b"), ("keep", "b")], numbers),
            (2, [("put", "b"), ("drop", "a"), ("keep",)], numbers),
            (2, [("put", "b"), ("drop", "a"), ("keep", "b", "b")], numbers),
            (2, [("put", "b"), ("drop", "a"), ()], numbers),
            (2, [("put", "b"), ("drop", "a"), ("stay", "b")], numbers),
            (2, [("put", "b"), ("put", "b"), ("drop", "b"), ("drop", "a"), ("keep", "b")], numbers),
        ):
            self.assertIs(shows_distance("ab", BB, "ab", *wrong, costs=costs), False, wrong)
        self.assertIs(shows_distance("ab", BB, "aa", 2, moves, numbers, costs=costs), False)
        self.assertIs(shows_distance("ab", BB, "ab", 2, moves, numbers, costs=(1, 2, 3)), False)

    def test_what_shows_that_there_is_none(self):
        none = [[None, None, None]]
        self.assertIs(shows_distance("ab", NOTHING, "ab", None, None, none), True)
        for wrong in ((None, [], none), (None, [("keep", "a"), ("keep", "b")], none), (0, None, none), (0, [], none),
                      (2, None, [[2, 1, 0]]), (None, None, [[2, 1, 0]]), (None, None, [[None, None, 0]]),
                      (None, None, [[None, None]]), (None, None, [])):
            self.assertIs(shows_distance("ab", NOTHING, "ab", *wrong), False, wrong)
        self.assertIs(shows_distance("ab", NOTHING, "ab", None, None, [[None, 3, 2]]), False)
        dead = ([[1, 1], [1, 1], [2, 2]], [False, False, True])
        self.assertIs(shows_distance("ab", dead, "a", None, None, [[None, None], [None, None], [0, 0]]), True)
        self.assertIs(shows_distance("ab", EVERY, "a", None, None, [[None, None]]), False)


class NearestTest(unittest.TestCase):
    def test_made_up_machines(self):
        rng = random.Random(506)
        for letters, machine in some_machines(507, 80, most=3, letters=("ab", "ba", "abc")):
            costs = rng.choice(COSTS)
            for word in all_words(letters, 2):
                words = taken_words(letters, machine, 5)
                costs_of = [slow.word_cost(word, other, costs) for other in words]
                found = [other for other, told in zip(words, costs_of) if told == min(costs_of)]
                if costs[0] * 4 > min(costs_of, default=0):
                    for most in (0, 1, 2, 64):
                        self.assertEqual(nearest(letters, machine, word, most=most, costs=costs), found[:most])

    def test_in_order_and_most(self):
        machine = word_machine("ab", ["aab", "abb", "bba", "b", "aabb"])
        self.assertEqual(nearest("ab", machine, "ab", most=64), ["b", "aab", "abb"])
        other = word_machine("ba", ["aab", "abb", "bba", "b", "aabb"])
        self.assertEqual(nearest("ba", other, "ab", most=64), ["b", "abb", "aab"])
        self.assertEqual(nearest("ab", machine, "ab", most=2), ["b", "aab"])
        self.assertEqual(nearest("ab", machine, "ab", most=1), ["b"])
        self.assertEqual(nearest("ab", machine, "ab", most=0), [])
        self.assertEqual(nearest("ab", machine, "aabb", most=64), ["aabb"])
        self.assertEqual(nearest("ab", machine, "", most=64), ["b"])

    def test_many_of_them(self):
        six = machine_of("abc", ("times", ("one", "abc"), 6, 6))
        words = words_upto("abc", six, 6)
        self.assertEqual(nearest("abc", six, "", most=64), words[:64])
        # Those with a sign put somewhere into "ababab" less one.
        self.assertEqual(nearest("abc", six, "ababa", most=64),
                         [word for word in words if slow.word_cost("ababa", word, (1, 1, 1)) == 1])

    def test_long_ones(self):
        """A word of 40 signs, none of which is kept."""
        machine = ([[min(k + 1, 39), min(k + 1, 38)] for k in range(40)], [k == 39 for k in range(40)])
        found = nearest("ab", machine, "b" * 40, most=64, costs=(1, 9, 9))
        cost = distance("ab", machine, "b" * 40, costs=(1, 9, 9))
        self.assertEqual(cost, 1)
        self.assertTrue(found)
        for word in found:
            self.assertTrue(is_taken("ab", machine, word))
            self.assertEqual(slow.word_cost("b" * 40, word, (1, 9, 9)), cost)
        # Between each two signs that are kept some are put in.
        ring = ([[(k + 1) % 8, (k + 1) % 8 if k == 7 else 8] for k in range(8)] + [[8, 8]], [True] + [False] * 8)
        self.assertEqual(nearest("ab", ring, "b" * 40, most=64, costs=(1, 9, 9)), [("a" * 7 + "b") * 40])


class AroundTest(unittest.TestCase):
    def test_made_up_machines(self):
        errors = 0
        for letters, machine in some_machines(508, 120, most=4):
            most = 5 if len(letters) < 3 else 3
            for many in range(3):
                try:
                    told = around(letters, machine, many)
                except (TooMany, TooGreat):
                    errors += 1
                    continue
                self.assertEqual(told, least(letters, told))
                for word in all_words(letters, most):
                    number = distance(letters, machine, word)
                    self.assertIs(taken(letters, told, word), number is not None and number <= many)
            self.assertEqual(around(letters, machine, 0), least(letters, machine))
        self.assertLess(errors, 20)

    def test_examples(self):
        self.assertEqual(words_upto("ab", around("ab", BB, 1), 9), ["b", "ab", "ba", "bb", "abb", "bab", "bba", "bbb"])
        self.assertEqual(words_upto("ab", around("ab", word_machine("ab", [""]), 2), 9), ["", "a", "b", "aa", "ab", "ba", "bb"])
        self.assertEqual(around("ab", NOTHING, 2), NOTHING)
        self.assertEqual(around("ab", EVERY, 2), EVERY)

    def test_machines_of_few_words(self):
        rng = random.Random(511)
        for letters, most, many in (("ab", 6, 1), ("ab", 6, 2), ("abc", 4, 1), ("abc", 4, 2)):
            for _ in range(25):
                words = rng.sample(all_words(letters, 4), rng.randint(1, 2 if many == 1 else 1))
                near = [word for word in all_words(letters, most)
                        if min(slow.word_cost(word, other, (1, 1, 1)) for other in words) <= many]
                told = around(letters, word_machine(letters, words), many)
                self.assertEqual([word for word in all_words(letters, most) if taken(letters, told, word)], near)

    def test_errors(self):
        rng = random.Random(509)
        with self.assertRaises(TooMany):
            around("ab", ([[rng.randrange(40) for _ in "ab"] for _ in range(40)], [k < 3 for k in range(40)]), 2)
        line = word_machine("ab", ["ab" * 15])
        self.assertEqual(len(line[0]), 32)
        self.assertEqual(around("ab", line, 0), line)
        with self.assertRaises(TooGreat):
            around("ab", line, 2)

    def test_forty_one_states_ahead_of_the_others(self):
        rng = random.Random(510)
        machine = ([[rng.randrange(41) for _ in "ab"] for _ in range(41)], [k % 3 == 0 for k in range(41)])
        for many in range(3):
            for wrong in (machine, ([[0, 0]] * 41, [True] * 41)):
                with self.assertRaises(BadSize) as caught:
                    around("ab", wrong, many)
                self.assertEqual(caught.exception.size, 41)
        self.assertEqual(around("ab", ([[0, 0]] * 40, [True] * 40), 2), EVERY)


class NothingModifiedTest(unittest.TestCase):
    def test_all(self):
        machine = ([[1, 0], [1, 1]], [False, True])
        check_new(self, words_of, "ab", [("keep", "a")])
        check_new(self, cost_of, [("keep", "a")], costs=(1, 2, 3))
        check_new(self, distance, "ab", machine, "bb")
        moves = check_new(self, moves_of, "ab", machine, "bb", costs=(2, 2, 2))
        numbers = check_new(self, numbers_of, "ab", machine, "bb", costs=(2, 2, 2))
        check_new(self, nearest, "ab", machine, "bb", most=5, costs=(2, 2, 2))
        check_new(self, is_numbers, "ab", machine, "bb", numbers)
        check_new(self, shows_distance, "ab", machine, "bb", 2, moves, numbers, costs=(2, 2, 2))
        check_new(self, around, "ab", machine, 1)


if __name__ == "__main__":
    unittest.main()
