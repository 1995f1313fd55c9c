import itertools
import random
import unittest

from helpers import (
    all_words,
    check_new,
    counter,
    cycle,
    some_machine,
    some_machines,
    tail_and_loop,
    taken,
    taken_words,
)

from hallofwords.errors import HallError, TooGreat, TooMany
from hallofwords.folds import (
    ahead,
    beginnings,
    behind,
    closings,
    denied,
    joined,
    less,
    met,
    middles,
    repeated,
    rowed,
    turned,
)
from hallofwords.machines import check_machine, least

MOST = {"a": 9, "ab": 6, "ba": 6, "abc": 4}
ENDS_AB = ([[1, 0], [1, 2], [1, 0]], [False, False, True])

# Machines of which just 2000 and 2001 things are met.
ROWED_2000 = (
    ([[1, 2], [0, 2], [0, 2]], [False, True, False]),
    ([[1, 2], [0, 1], [3, 4], [4, 5], [6, 7], [8, 9], [2, 4], [5, 3], [9, 10], [10, 2], [7, 1]],
     [False, False, False, False, True, True, True, True, False, False, False]),
)
ROWED_2001 = (
    ([[1, 2], [2, 0], [0, 2]], [False, False, True]),
    ([[1, 2], [3, 2], [4, 5], [6, 0], [0, 6], [7, 1], [8, 9], [9, 4], [2, 10], [5, 0], [10, 3]],
     [False, False, True, False, True, True, True, False, True, True, False]),
)
REPEATED_2000 = (
    [[1, 0], [2, 3], [3, 4], [5, 1], [6, 7], [8, 9], [10, 1], [9, 11], [7, 11], [0, 12], [13, 2], [11, 0], [4, 5],
     [12, 11]],
    [k in (0, 12) for k in range(14)],
)
REPEATED_2001 = (
    [[1, 2], [0, 3], [4, 5], [3, 6], [7, 4], [2, 0], [6, 8], [9, 10], [5, 6], [8, 8], [11, 12], [13, 6], [12, 9],
     [10, 8]],
    [k in (3, 13) for k in range(14)],
)
CLOSINGS_2000 = (
    [[1, 2], [3, 4], [0, 5], [6, 6], [7, 3], [8, 8], [9, 10], [4, 9], [5, 7], [2, 2], [10, 0]],
    [k in (0, 4) for k in range(11)],
)
CLOSINGS_2001 = (
    [[1, 2], [3, 2], [4, 5], [0, 0], [6, 3], [7, 1], [8, 9], [2, 4], [5, 10], [10, 6], [9, 7]],
    [k in (0, 1, 4, 5) for k in range(11)],
)
# Machines of which just 60 and 61 sets or states come.
TURNED_60 = ([[0, 1], [2, 0], [3, 2], [4, 1], [5, 3], [6, 0], [5, 6]], [k in (0, 2) for k in range(7)])
TURNED_61 = ([[1, 2], [3, 2], [3, 4], [5, 0], [1, 6], [3, 5], [2, 3]], [k in (0, 2, 5, 6) for k in range(7)])
CLOSINGS_60 = ([[1, 2], [3, 1], [4, 0], [5, 0], [2, 5], [4, 6], [7, 3], [1, 5]], [k in (0, 5) for k in range(8)])
CLOSINGS_61 = ([[1, 1], [1, 2], [3, 4], [5, 1], [4, 6], [0, 7], [1, 0], [4, 5]], [k in (0, 4) for k in range(8)])


def one_of(*lengths):
    """The machine over the letters a of the words of these lengths."""
    many = max(lengths) + 2
    return ([[min(k + 1, many - 1)] for k in range(many)], [k in lengths for k in range(many)])


class FoldsTest(unittest.TestCase):
    def check(self, letters, found, told):
        """The found machine is a least one, and takes just the words that are told."""
        check_machine(letters, found)
        self.assertEqual(least(letters, found), found)
        self.assertEqual(taken_words(letters, found, MOST[letters]),
                         [word for word in all_words(letters, MOST[letters]) if told(word)])

    def raises(self, error, call, *values):
        with self.assertRaises(HallError) as caught:
            call(*values)
        self.assertIs(type(caught.exception), error)


class PairsTest(FoldsTest):
    def test_denied(self):
        for letters, machine in some_machines(31, 100):
            self.check(letters, denied(letters, machine), lambda word: not taken(letters, machine, word))
        self.assertEqual(denied("ab", ([[0, 0]], [True])), ([[0, 0]], [False]))
        self.assertEqual(denied("a", cycle(60, 1)), ([[(k + 1) % 60] for k in range(60)], [k != 1 for k in range(60)]))

    def test_two(self):
        rng = random.Random(32)
        for letters, first in some_machines(33, 150):
            second = some_machine(rng, letters, 5)
            said = {word: (taken(letters, first, word), taken(letters, second, word))
                    for word in all_words(letters, MOST[letters])}
            self.check(letters, met(letters, [first, second]), lambda word: said[word] == (True, True))
            self.check(letters, joined(letters, [first, second]), lambda word: said[word] != (False, False))
            self.check(letters, less(letters, first, second), lambda word: said[word] == (True, False))

    def test_lists(self):
        rng = random.Random(34)
        for letters in ("a", "ab", "ba", "abc"):
            for many in (1, 2, 3, 6):
                for _ in range(10):
                    machines = [some_machine(rng, letters, 3) for _ in range(many)]
                    self.check(letters, met(letters, machines),
                               lambda word: all(taken(letters, machine, word) for machine in machines))
                    self.check(letters, joined(letters, machines),
                               lambda word: any(taken(letters, machine, word) for machine in machines))

    def test_same_machine_several_times(self):
        for letters, machine in some_machines(35, 50, most=7):
            found = least(letters, machine)
            for many in (1, 2, 6):
                self.assertEqual(met(letters, [machine] * many), found)
                self.assertEqual(joined(letters, [machine] * many), found)
            self.assertEqual(less(letters, machine, machine), ([[0] * len(letters)], [False]))

    def test_examples_of_point_13(self):
        for call in (met, joined):
            self.raises(TooMany, call, "a", [cycle(47, 0), cycle(43, 0)])
            self.raises(TooGreat, call, "a", [cycle(44, 0), cycle(45, 0)])
        self.assertEqual(met("a", [cycle(4, 0), cycle(15, 0)]), cycle(60, 0))
        self.assertEqual(len(joined("a", [cycle(4, 0), cycle(15, 0)])[0]), 60)
        self.raises(TooMany, less, "a", cycle(47, 0), cycle(43, 0))
        self.raises(TooGreat, less, "a", cycle(44, 0), cycle(45, 0))

    def test_60_and_61_states(self):
        later = ([[k + 1] if k < 15 else [1] for k in range(16)], [k == 15 for k in range(16)])
        self.raises(TooGreat, met, "a", [cycle(4, 0), later])
        self.assertEqual(len(met("a", [cycle(4, 1), later])[0]), 60)

    def test_2000_and_2001_pairs(self):
        # The tail and the loop meet 17 and 1980 pairs, and b and c meet three more.
        second = tail_and_loop(0, 55, "c")
        for tail in (17, 18):
            first = tail_and_loop(tail, 36, "b")
            self.assertEqual(len(least("abc", first)[0]), tail + 38)
            self.assertEqual(len(least("abc", second)[0]), 57)
            if tail == 17:
                self.assertEqual(met("abc", [first, second]), ([[0] * 3], [False]))
                self.raises(TooGreat, joined, "abc", [first, second])
                self.assertEqual(less("abc", first, second), least("abc", first))
            else:
                self.raises(TooMany, met, "abc", [first, second])
                self.raises(TooMany, joined, "abc", [first, second])
                self.raises(TooMany, less, "abc", first, second)

    def test_errors_hang_on_the_words_alone(self):
        # Sixty states each, of which only few are not alike.
        wide = cycle(60, *range(0, 60, 4))
        other = cycle(59, *range(59))
        self.assertEqual(met("a", [wide, other]), cycle(4, 0))
        # Two by two from the left: the last machine takes nothing, but the error comes first.
        none = ([[0]], [False])
        self.raises(TooMany, met, "a", [cycle(47, 0), cycle(43, 0), none])
        self.assertEqual(met("a", [none, cycle(47, 0), cycle(43, 0)]), none)
        self.raises(TooGreat, joined, "a", [cycle(44, 0), cycle(45, 0), ([[0]], [True])])

    def test_answers_are_new(self):
        machine = ([[1, 1], [0, 0]], [True, False])
        for call in (met, joined):
            check_new(self, call, "ab", [machine])
            check_new(self, call, "ab", [machine, machine, ENDS_AB])
        check_new(self, less, "ab", machine, ENDS_AB)
        for call in (denied, repeated, turned, beginnings, closings, middles):
            check_new(self, call, "ab", machine)
            check_new(self, call, "ab", ENDS_AB)
        check_new(self, rowed, "ab", machine, machine)
        check_new(self, behind, "ab", machine, "")
        check_new(self, ahead, "ab", machine, "ab")


class RowedTest(FoldsTest):
    def test_made_up_machines(self):
        rng = random.Random(36)
        for letters, first in some_machines(37, 150, most=4):
            second = some_machine(rng, letters, 4)
            self.check(letters, rowed(letters, first, second), lambda word: any(
                taken(letters, first, word[:cut]) and taken(letters, second, word[cut:])
                for cut in range(len(word) + 1)))

    def test_same_machine(self):
        self.assertEqual(rowed("a", cycle(2, 1), cycle(2, 1)), ([[1], [2], [1]], [False, False, True]))

    def test_60_and_61_states(self):
        self.assertEqual(rowed("a", counter(29), counter(29)), counter(58))
        self.raises(TooGreat, rowed, "a", counter(29), counter(30))

    def test_2000_and_2001_things(self):
        for first, second in (ROWED_2000, ROWED_2001):
            self.assertEqual((least("ab", first), least("ab", second)), (first, second))
        self.assertEqual(things_of_row(*ROWED_2000), 2000)
        self.raises(TooGreat, rowed, "ab", *ROWED_2000)
        self.assertEqual(things_of_row(*ROWED_2001), 2001)
        self.raises(TooMany, rowed, "ab", *ROWED_2001)

    def test_states_count_from_which_no_end_can_be_reached(self):
        first = ([[1, 2], [2, 0], [2, 3], [3, 1]], [False, True, False, False])
        table = [[1, 2], [3, 4], [5, 6], [7, 8], [4, 4], [6, 4], [9, 10], [2, 1], [0, 2], [8, 0], [11, 8], [12, 8],
                 [10, 12]]
        second = (table, [k in (1, 5, 9, 10) for k in range(13)])
        self.assertEqual((least("ab", first), least("ab", second)), (first, second))
        self.assertEqual((things_of_row(first, second), things_of_row(first, second, without=(4,))), (2329, 1167))
        self.raises(TooMany, rowed, "ab", first, second)

    def test_errors_of_made_up_machines(self):
        rng = random.Random(38)
        seen = set()
        for _ in range(60):
            first, second = [least("ab", random_loops(rng, rng.randint(3, 10))) for _ in range(2)]
            many = things_of_row(first, second)
            try:
                rowed("ab", first, second)
                error = None
            except HallError as caught:
                error = type(caught)
            self.assertEqual(error is TooMany, many > 2000)
            seen.add(error)
        self.assertEqual(seen, {None, TooMany, TooGreat})


def random_loops(rng, many):
    loop = rng.sample(range(many), many)
    return ([[loop[k], rng.randrange(many)] for k in range(many)], [rng.random() < 0.3 for _ in range(many)])


def count_things(first, step):
    """The number of the things that are met by the letters ab."""
    seen, waiting = {first}, [first]
    while waiting:
        thing = waiting.pop()
        for at in range(2):
            reached = step(thing, at)
            if reached not in seen:
                seen.add(reached)
                waiting.append(reached)
    return len(seen)


def things_of_row(first, second, without=()):
    def step(thing, at):
        state = first[0][thing[0]][at]
        states = frozenset(second[0][k][at] for k in thing[1]) - set(without)
        return state, states | {0} if first[1][state] else states

    return count_things((0, frozenset([0] if first[1][0] else [])), step)


def things_of_turns(machine):
    table, ends = machine

    def step(thing, at):
        states = frozenset(table[k][at] for k in thing)
        return states | {0} if any(ends[k] for k in states) else states

    return count_things(frozenset([0]), step)


def things_of_closings(machine):
    table = machine[0]
    return count_things(frozenset(range(len(table))), lambda thing, at: frozenset(table[k][at] for k in thing))


class RepeatedTest(FoldsTest):
    def test_made_up_machines(self):
        for letters, machine in some_machines(39, 150, most=5):
            def turns(word, machine=machine, letters=letters):
                if taken(letters, machine, word):
                    return True
                return any(taken(letters, machine, word[:cut]) and turns(word[cut:]) for cut in range(1, len(word)))

            self.check(letters, repeated(letters, machine), turns)

    def test_word_without_signs(self):
        self.assertEqual(repeated("a", counter(1)), ([[1], [1]], [False, True]))
        self.assertEqual(repeated("a", counter(0)), ([[1], [1]], [True, False]))
        self.assertEqual(repeated("a", ([[0]], [False])), ([[0]], [False]))

    def test_60_and_61_states(self):
        # The greatest lengths that are not brought together are 58 and 59.
        self.assertEqual(len(repeated("a", one_of(4, 31, 33))[0]), 60)
        self.raises(TooGreat, repeated, "a", one_of(7, 11))

    def test_2000_and_2001_things(self):
        self.assertEqual([least("ab", machine) for machine in (REPEATED_2000, REPEATED_2001)],
                         [REPEATED_2000, REPEATED_2001])
        self.assertEqual(things_of_turns(REPEATED_2000), 2000)
        self.raises(TooGreat, repeated, "ab", REPEATED_2000)
        self.assertEqual(things_of_turns(REPEATED_2001), 2001)
        self.raises(TooMany, repeated, "ab", REPEATED_2001)

    def test_states_count_from_which_no_end_can_be_reached(self):
        table = [[1, 2], [3, 4], [4, 5], [5, 0], [6, 7], [2, 6], [7, 3], [8, 4], [9, 10], [0, 9], [11, 12], [11, 11],
                 [12, 8]]
        machine = (table, [k in (4, 9) for k in range(13)])
        self.assertEqual(least("ab", machine), machine)
        self.assertEqual(things_of_turns(machine), 2065)
        self.raises(TooMany, repeated, "ab", machine)

    def test_errors_of_made_up_machines(self):
        rng = random.Random(40)
        seen = set()
        for _ in range(60):
            machine = least("ab", random_loops(rng, rng.randint(4, 15)))
            try:
                repeated("ab", machine)
                error = None
            except HallError as caught:
                error = type(caught)
            self.assertEqual(error is TooMany, things_of_turns(machine) > 2000)
            seen.add(error)
        self.assertEqual(seen, {None, TooMany, TooGreat})


class TurnedTest(FoldsTest):
    def test_made_up_machines(self):
        for letters, machine in some_machines(41, 150, most=5):
            self.check(letters, turned(letters, machine), lambda word: taken(letters, machine, word[::-1]))
            self.assertEqual(turned(letters, turned(letters, machine)), least(letters, machine))

    def test_60_and_61_sets(self):
        self.assertEqual(turned("a", cycle(60, 7)), cycle(60, 7))
        self.assertEqual(len(turned("ab", TURNED_60)[0]), 60)
        self.raises(TooGreat, turned, "ab", TURNED_61)

    def test_too_great_alone(self):
        # The k-th sign from the left is an a: turned it is the k-th from the right, 2 ** k states.
        for signs, fits in ((5, True), (6, False), (12, False), (50, False)):
            table = [[k + 1, k + 1] for k in range(signs - 1)] + [[signs, signs + 1], [signs] * 2, [signs + 1] * 2]
            machine = (table, [k == signs for k in range(signs + 2)])
            if fits:
                self.assertEqual(len(turned("ab", machine)[0]), 2 ** signs)
            else:
                self.raises(TooGreat, turned, "ab", machine)


class PiecesTest(FoldsTest):
    def test_behind_and_ahead(self):
        for letters, machine in some_machines(42, 60, most=5):
            for word in all_words(letters, 2):
                self.check(letters, behind(letters, machine, word),
                           lambda other: taken(letters, machine, word + other))
                self.check(letters, ahead(letters, machine, word),
                           lambda other: taken(letters, machine, other + word))

    def test_long_words(self):
        self.assertEqual(behind("a", cycle(60, 0), "a" * 200), cycle(60, 40))
        self.assertEqual(ahead("a", cycle(60, 0), "a" * 200), cycle(60, 40))
        self.assertEqual(behind("ab", ENDS_AB, "ab"), ([[1, 2], [1, 0], [1, 2]], [True, False, False]))

    def test_beginnings_closings_and_middles(self):
        for letters, machine in some_machines(43, 120, most=4):
            room = 4 if letters != "abc" else 3
            words = taken_words(letters, machine, min(MOST[letters], room + 4))
            begins = {word[:cut] for word in words for cut in range(len(word) + 1)}
            closes = {word[cut:] for word in words for cut in range(len(word) + 1)}
            within = {word[cut:] for word in begins for cut in range(len(word) + 1)}
            for call, told in ((beginnings, begins), (closings, closes), (middles, within)):
                found = call(letters, machine)
                self.assertEqual(least(letters, found), found)
                short = 2 if letters != "a" else 4
                self.assertLessEqual(
                    {word for word in all_words(letters, short) if word in told}, set(taken_words(letters, found, short)))
                self.check_pieces(call, letters, machine, found)

    def check_pieces(self, call, letters, machine, found):
        """With up to 4 states, words of up to three signs lead to each state, and from it to an end."""
        rests = all_words(letters, 3)
        before = rests if call in (closings, middles) else [""]
        after = rests if call in (beginnings, middles) else [""]
        for word in all_words(letters, 3):
            told = any(taken(letters, machine, one + word + other) for one, other in itertools.product(before, after))
            self.assertIs(taken(letters, found, word), told)

    def test_beginnings_raise_no_error(self):
        found = beginnings("a", cycle(60, 1))
        self.assertEqual(found, ([[0]], [True]))
        self.assertEqual(beginnings("a", counter(58)), ([[min(k + 1, 59)] for k in range(60)], [True] * 59 + [False]))
        self.assertEqual(beginnings("ab", ([[0, 0]], [False])), ([[0, 0]], [False]))

    def test_closings_60_and_61_states(self):
        self.assertEqual(len(closings("ab", CLOSINGS_60)[0]), 60)
        self.raises(TooGreat, closings, "ab", CLOSINGS_61)
        self.assertEqual(len(closings("a", counter(58))[0]), 60)

    def test_closings_2000_and_2001_things(self):
        self.assertEqual([least("ab", machine) for machine in (CLOSINGS_2000, CLOSINGS_2001)],
                         [CLOSINGS_2000, CLOSINGS_2001])
        self.assertEqual(things_of_closings(CLOSINGS_2000), 2000)
        self.assertEqual(things_of_closings(CLOSINGS_2001), 2001)
        self.raises(TooGreat, closings, "ab", CLOSINGS_2000)
        self.raises(TooMany, closings, "ab", CLOSINGS_2001)

    def test_middles_raise_what_closings_raise(self):
        self.raises(TooGreat, middles, "ab", CLOSINGS_61)
        self.raises(TooMany, middles, "ab", CLOSINGS_2001)
        self.assertEqual(middles("ab", CLOSINGS_60), beginnings("ab", closings("ab", CLOSINGS_60)))

    def test_not_least_machines(self):
        # The states that are alike or not reached do not count among the things.
        table, ends = CLOSINGS_2000
        twice = ([row + [] for row in table] + [row + [] for row in table], ends + ends)
        self.raises(TooGreat, closings, "ab", twice)
        self.assertEqual(closings("ab", ([[0, 0], [1, 1]], [False, True])), ([[0, 0]], [False]))


if __name__ == "__main__":
    unittest.main()
