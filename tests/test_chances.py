import random
import unittest
from fractions import Fraction

from drawn import (
    chance, chances_by_state, chances_of, means_by_state, of_letters, pair, some_sources
)
from helpers import all_words, check_new, counter, cycle, some_machine, some_machines, taken

from hallofwords.chances import (
    chance_at, chance_of, chances_from, check_source, ever_taken, mean_first, mean_places, means_from, met_by, race,
    search_machine, taken_by
)
from hallofwords.errors import BadNumber, BadSize, TooGreat, TooMany
from hallofwords.machines import least
from hallofwords.making import word_machine

HALVES = [(1, 2), (1, 2)]


def size_of(caught):
    return caught.exception.size


class SourceTest(unittest.TestCase):
    def test_right_sources(self):
        for letters, source in (
            ("a", [(1, 1)]),
            ("ab", [(1, 1), (0, 1)]),
            ("ab", [(0, 1), (1, 1)]),
            ("ab", HALVES),
            ("ab", [(1, 100), (99, 100)]),
            ("abc", [(1, 3), (1, 3), (1, 3)]),
            ("abcdef", [(1, 2), (1, 3), (1, 12), (1, 15), (0, 1), (1, 60)]),
        ):
            self.assertIsNone(check_new(self, check_source, letters, source))
        for _, letters, source in some_sources(1201, 60):
            check_source(letters, source)

    def test_sizes(self):
        for letters, source in (
            ("a", []),
            ("a", HALVES),
            ("ab", [(1, 1)]),
            ("abc", HALVES),
            ("a", [True, None]),
            ("ab", [(7, 2), (7, 2), (7, 2)]),
        ):
            with self.assertRaises(BadSize) as caught:
                check_source(letters, source)
            self.assertEqual(size_of(caught), len(source))

    def test_numbers(self):
        for wrong in (
            None, True, False, 0, 1, "1", "ab", [1, 2], [(1, 2)], (), (1,), (1, 2, 1), (True, 2), (1, True), (True, True),
            (1, None), (None, 2), ("1", 2), (1, "2"), (2, 4), (50, 100), (0, 2), (0, 100), (0, 0), (1, 0), (1, -2),
            (-1, -2), (-1, 2), (3, 2), (1, 101), (50, 101), (101, 202), (10 ** 30, 2 * 10 ** 30), ((1, 2), 1), {1: 2},
        ):
            for source in ([wrong, (1, 2)], [(1, 2), wrong]):
                with self.assertRaises(BadNumber):
                    check_new(self, check_source, "ab", source)
        with self.assertRaises(BadNumber):
            check_source("ab", [(1, 1), (0, 2)])
        with self.assertRaises(BadNumber):
            check_source("ab", [(1, 101), (100, 101)])
        check_source("ab", [(1, 100), (99, 100)])

    def test_sums(self):
        for source in ([(0, 1), (0, 1)], [(1, 1), (1, 1)], [(1, 2), (1, 3)], [(1, 2), (51, 100)], [(1, 2), (49, 100)],
                       [(1, 1), (1, 100)], [(3, 2), (-1, 2)], [(-1, 1), (2, 1)], [(1, 200), (199, 200)]):
            with self.assertRaises(BadNumber):
                check_source("ab", source)
        with self.assertRaises(BadNumber):
            check_source("abc", [(1, 3), (1, 3), (33, 100)])


class NumbersTest(unittest.TestCase):
    def test_chance_of(self):
        for rng, letters, source in some_sources(1211, 60):
            for word in all_words(letters, 3):
                self.assertEqual(check_new(self, chance_of, letters, source, word), pair(chance(letters, source, word)))
        self.assertEqual(chance_of("ab", HALVES, ""), (1, 1))
        self.assertEqual(chance_of("ab", HALVES, "ab" * 100), (1, 2 ** 200))
        self.assertEqual(chance_of("ab", [(1, 1), (0, 1)], "a" * 200), (1, 1))
        self.assertEqual(chance_of("ab", [(1, 1), (0, 1)], "ab"), (0, 1))

    def test_against_all_words(self):
        for rng, letters, source in some_sources(1212, 60):
            machine = some_machine(rng, letters, 5)
            for n in range(5):
                at = by = met = mean = Fraction(0)
                for word in [word for word in all_words(letters, n) if len(word) == n]:
                    part = chance(letters, source, word)
                    places = [(b, e) for e in range(n + 1) for b in range(e + 1) if taken(letters, machine, word[b:e])]
                    at += part * taken(letters, machine, word)
                    by += part * any(b == 0 for b, _ in places)
                    met += part * bool(places)
                    mean += part * len(places)
                for call, told in ((chance_at, at), (taken_by, by), (met_by, met), (mean_places, mean)):
                    self.assertEqual(check_new(self, call, letters, source, machine, n), pair(told), call)

    def test_sixty_signs(self):
        one = word_machine("ab", ["ab"])
        every = ([[0, 0]], [True])
        for source in (HALVES, [(1, 3), (2, 3)], [(1, 1), (0, 1)], [(99, 100), (1, 100)]):
            p, q = of_letters(source)
            self.assertEqual(chance_at("ab", source, every, 60), (1, 1))
            self.assertEqual(mean_places("ab", source, every, 60), (61 * 62 // 2, 1))
            self.assertEqual(mean_places("ab", source, one, 60), pair(59 * p * q))
            self.assertEqual(taken_by("ab", source, one, 60), pair(p * q))
            # A word without "ab" is some of b and then some of a.
            without = sum(q ** k * p ** (60 - k) for k in range(61))
            self.assertEqual(met_by("ab", source, one, 60), pair(1 - without))
            self.assertEqual(chance_at("ab", source, cycle(60, 0, letters="ab"), 60), (1, 1))
            self.assertEqual(chance_at("ab", source, cycle(60, 0, letters="ab"), 59), (0, 1))
        source = [(1, 100), (3, 50), (1, 25), (3, 20), (7, 100), (67, 100)]
        check_source("abcdef", source)
        self.assertEqual(chance_at("abcdef", source, ([[0] * 6], [True]), 60), (1, 1))

    def test_no_signs(self):
        for rng, letters, source in some_sources(1213, 30):
            machine = some_machine(rng, letters, 5)
            told = (1, 1) if machine[1][0] else (0, 1)
            for call in (chance_at, taken_by, met_by, mean_places):
                self.assertEqual(call(letters, source, machine, 0), told)


class SearchTest(unittest.TestCase):
    def test_against_places(self):
        for letters, machine in some_machines(1221, 120):
            found = check_new(self, search_machine, letters, machine)
            self.assertEqual(least(letters, found), found)
            for word in all_words(letters, 5 if len(letters) < 3 else 4):
                places = any(taken(letters, machine, word[b:e]) for e in range(len(word) + 1) for b in range(e + 1))
                self.assertEqual(taken(letters, found, word), places)

    def test_examples(self):
        self.assertEqual(search_machine("ab", ([[0, 0]], [True])), ([[0, 0]], [True]))
        self.assertEqual(search_machine("ab", ([[0, 0]], [False])), ([[0, 0]], [False]))
        self.assertEqual(
            search_machine("ab", word_machine("ab", ["ab"])), ([[1, 0], [1, 2], [2, 2]], [False, False, True])
        )

    def test_how_far_back(self):
        # The words of a, so many signs, and c: it is kept in mind which of the last signs are a, until c comes.
        for many, error in ((3, None), (4, None), (5, TooGreat), (9, TooGreat), (10, TooMany), (12, TooMany)):
            none = many + 3
            table = [[1, none, none]] + [[k + 1] * 3 for k in range(1, many + 1)]
            table += [[none, none, many + 2], [none] * 3, [none] * 3]
            machine = (table, [k == many + 2 for k in range(many + 4)])
            met, states = search_sizes("abc", machine)
            self.assertEqual(error, TooMany if met > 2000 else TooGreat if states > 60 else None)
            for call in (search_machine, lambda letters, told: met_by(letters, [(1, 1), (0, 1), (0, 1)], told, 0)):
                if error is None:
                    call("abc", machine)
                else:
                    with self.assertRaises(error):
                        call("abc", machine)

    def test_errors_by_numbers(self):
        seen = {}
        rng = random.Random(1222)
        for _ in range(150):
            many = rng.choice([8, 12, 16, 24])
            machine = ([[rng.randrange(many), rng.randrange(many)] for _ in range(many)],
                       [k == many - 1 for k in range(many)])
            met, states = search_sizes("ab", machine)
            wanted = TooMany if met > 2000 else TooGreat if states > 60 else None
            seen[wanted] = seen.get(wanted, 0) + 1
            for call in (search_machine, lambda *told: met_by("ab", HALVES, machine, 3)):
                if wanted is None:
                    call("ab", machine)
                else:
                    with self.assertRaises(wanted):
                        call("ab", machine)
        self.assertGreater(seen[None], 10)
        self.assertGreater(seen.get(TooGreat, 0), 5)


def search_sizes(letters, machine, most=2001):
    """How many things of point 107 are met (at most 2001), and how many states their least machine has."""
    table, ends = least(letters, machine)
    first = "found" if ends[0] else frozenset([0])
    things, rows, place = [first], [], {first: 0}
    while len(rows) < len(things) and len(things) < most:
        row = []
        for at in range(len(letters)):
            thing = things[len(rows)]
            if thing != "found":
                reached = {table[state][at] for state in thing}
                thing = "found" if any(ends[state] for state in reached) else frozenset(reached | {0})
            if thing not in place:
                place[thing] = len(things)
                things.append(thing)
            row.append(place[thing])
        rows.append(row)
    if len(things) >= most:
        return most, None
    kinds = [int(thing == "found") for thing in things]
    while True:
        finer = [tuple([kinds[k]] + [kinds[behind] for behind in row]) for k, row in enumerate(rows)]
        if len(set(finer)) == len(set(kinds)):
            return len(things), len(set(kinds))
        kinds = [sorted(set(finer)).index(kind) for kind in finer]


class StatesTest(unittest.TestCase):
    def test_against_equations(self):
        nones = 0
        for rng, letters, source in some_sources(1231, 200):
            machine = some_machine(rng, letters, 7)
            chances = check_new(self, chances_from, letters, source, machine)
            self.assertEqual(chances, [pair(told) for told in chances_by_state(source, machine)])
            means = check_new(self, means_from, letters, source, machine)
            self.assertEqual(means, [pair(told) for told in means_by_state(source, machine)])
            self.assertEqual([mean is None for mean in means], [told != (1, 1) for told in chances])
            nones += None in means
            self.assertEqual(check_new(self, ever_taken, letters, source, machine), chances[0])
            self.assertEqual(check_new(self, mean_first, letters, source, machine), means[0])
        self.assertGreater(nones, 40)

    def test_letters_that_are_not_drawn(self):
        machine = ([[0, 1], [2, 1], [2, 2]], [False, True, False])
        self.assertEqual(chances_from("ab", [(1, 1), (0, 1)], machine), [(0, 1), (1, 1), (0, 1)])
        self.assertEqual(means_from("ab", [(1, 1), (0, 1)], machine), [None, (0, 1), None])
        self.assertEqual(chances_from("ab", [(0, 1), (1, 1)], machine), [(1, 1), (1, 1), (0, 1)])
        self.assertEqual(means_from("ab", [(99, 100), (1, 100)], machine), [(100, 1), (0, 1), None])

    def test_copies_of_a_state(self):
        # States 0 and 1, and 2 and 3, are alike; 4 is an end.
        machine = ([[1, 2], [0, 3], [4, 1], [4, 0], [4, 4]], [False] * 4 + [True])
        self.assertEqual(chances_from("ab", HALVES, machine), [(1, 1)] * 5)
        self.assertEqual(means_from("ab", HALVES, machine), [(6, 1), (6, 1), (4, 1), (4, 1), (0, 1)])
        self.assertEqual(mean_first("ab", HALVES, machine), (6, 1))

    def test_examples(self):
        for word, mean in (("ab", (4, 1)), ("aa", (6, 1)), ("aba", (10, 1))):
            search = search_machine("ab", word_machine("ab", [word]))
            self.assertEqual(mean_first("ab", HALVES, search), mean)
            self.assertEqual(ever_taken("ab", HALVES, search), (1, 1))

    def test_one_word_is_searched_for(self):
        for rng, letters, source in some_sources(1232, 60, letters=("ab", "abc")):
            word = "".join(rng.choice(letters) for _ in range(rng.randint(1, 6)))
            search = search_machine(letters, word_machine(letters, [word]))
            drawn = chance(letters, source, word) > 0
            self.assertEqual(ever_taken(letters, source, search), (int(drawn), 1))
            begins = [word[:k] for k in range(1, len(word) + 1) if word.endswith(word[:k])]
            mean = sum(1 / chance(letters, source, begin) for begin in begins) if drawn else None
            self.assertEqual(mean_first(letters, source, search), pair(mean))

    def test_some_words_are_searched_for(self):
        for rng, letters, source in some_sources(1233, 60, letters=("ab", "abc")):
            machine = some_machine(rng, letters, 4)
            short = [word for word in all_words(letters, 4) if taken(letters, machine, word)]
            drawn = any(chance(letters, source, word) > 0 for word in short)
            try:
                found = ever_taken(letters, source, search_machine(letters, machine))
            except (BadSize, TooGreat, TooMany):
                continue
            self.assertEqual(found, (int(drawn), 1))

    def test_sizes(self):
        for many in (24, 25, 60):
            machine = cycle(many, many - 1)
            for call in (chances_from, means_from, ever_taken, mean_first):
                if many <= 24:
                    call("a", [(1, 1)], machine)
                    continue
                with self.assertRaises(BadSize) as caught:
                    call("a", [(1, 1)], machine)
                self.assertEqual(size_of(caught), many)
        self.assertEqual(mean_first("a", [(1, 1)], cycle(24, 23)), (23, 1))
        # The least machine has 24 states, or 25, but 48 or 50 are handed in.
        for many in (24, 25):
            machine = cycle(2 * many, many - 1, 2 * many - 1)
            for call in (chances_from, means_from):
                with self.assertRaises(BadSize) as caught:
                    call("a", [(1, 1)], machine)
                self.assertEqual(size_of(caught), 2 * many)
        self.assertEqual(ever_taken("a", [(1, 1)], cycle(48, 23, 47)), (1, 1))
        self.assertEqual(mean_first("a", [(1, 1)], cycle(48, 23, 47)), (23, 1))
        for call in (ever_taken, mean_first):
            with self.assertRaises(BadSize) as caught:
                call("a", [(1, 1)], cycle(50, 24, 49))
            self.assertEqual(size_of(caught), 25)

    def test_greatest_machines(self):
        rng = random.Random(1234)
        letters = "abcdef"
        source = [(1, 100), (3, 50), (1, 25), (3, 20), (7, 100), (67, 100)]
        for _ in range(3):
            machine = ([[rng.randrange(24) for _ in letters] for _ in range(24)], [k == 23 for k in range(24)])
            self.assertEqual(means_from(letters, source, machine), [pair(m) for m in means_by_state(source, machine)])
        thin = [(1, 97), (96, 97)]
        chain = ([[k + 1, 0] for k in range(23)] + [[23, 23]], [k == 23 for k in range(24)])
        self.assertEqual(mean_first("ab", thin, chain), pair(sum(Fraction(97) ** k for k in range(1, 24))))


class RaceTest(unittest.TestCase):
    def slow(self, letters, source, first, second):
        one, other = least(letters, first), least(letters, second)
        steps, waiting = {}, [(0, 0)]
        while waiting:
            p, q = waiting.pop()
            if (p, q) in steps:
                continue
            steps[p, q] = []
            if not one[1][p] and not other[1][q]:
                steps[p, q] = list(zip(of_letters(source), zip(one[0][p], other[0][q])))
                waiting += [behind for _, behind in steps[p, q]]
        if len(steps) > 24:
            return len(steps)
        told = []
        for wanted in ((True, False), (False, True), (True, True)):
            goals = {(p, q) for p, q in steps if (one[1][p], other[1][q]) == wanted}
            told.append(chances_of(steps, goals)[0, 0])
        return tuple(pair(part) for part in told + [1 - sum(told)])

    def test_example(self):
        ab, bb = [search_machine("ab", word_machine("ab", [word])) for word in ("ab", "bb")]
        self.assertEqual(race("ab", HALVES, ab, bb), ((3, 4), (1, 4), (0, 1), (0, 1)))
        self.assertEqual(race("ab", HALVES, bb, ab), ((1, 4), (3, 4), (0, 1), (0, 1)))
        self.assertEqual(race("ab", HALVES, ab, ab), ((0, 1), (0, 1), (1, 1), (0, 1)))

    def test_against_equations(self):
        seen = {"size": 0, "never": 0}
        for rng, letters, source in some_sources(1241, 250):
            first, second = some_machine(rng, letters, 7), some_machine(rng, letters, 7)
            slow = self.slow(letters, source, first, second)
            if isinstance(slow, int):
                with self.assertRaises(BadSize) as caught:
                    race(letters, source, first, second)
                self.assertEqual(size_of(caught), slow)
                seen["size"] += 1
            else:
                found = check_new(self, race, letters, source, first, second)
                self.assertEqual(found, slow)
                seen["never"] += found[3] != (0, 1)
        self.assertGreater(seen["never"], 10)

    def test_an_end_at_once(self):
        every, nothing, late = ([[0]], [True]), ([[0]], [False]), cycle(3, 2)
        for first, second, told in (
            (every, nothing, (1, 0, 0, 0)), (nothing, every, (0, 1, 0, 0)), (every, every, (0, 0, 1, 0)),
            (every, late, (1, 0, 0, 0)), (late, late, (0, 0, 1, 0)), (nothing, nothing, (0, 0, 0, 1)),
            (nothing, late, (0, 1, 0, 0)),
        ):
            self.assertEqual(race("a", [(1, 1)], first, second), tuple((part, 1) for part in told))

    def test_letters_that_are_not_drawn(self):
        first, second = word_machine("ab", ["a"]), word_machine("ab", ["b"])
        self.assertEqual(race("ab", [(1, 1), (0, 1)], first, second), ((1, 1), (0, 1), (0, 1), (0, 1)))
        self.assertEqual(race("ab", [(1, 3), (2, 3)], first, second), ((1, 3), (2, 3), (0, 1), (0, 1)))
        # The pairs behind b are met, and so there are too many of them.
        long = ([[1, k + 2] for k in [0]] + [[1, 1]] + [[k + 1, k + 1] for k in range(2, 29)] + [[29, 29]],
                [k == 1 or k == 29 for k in range(30)])
        nothing = ([[0, 0]], [False])
        with self.assertRaises(BadSize) as caught:
            race("ab", [(1, 1), (0, 1)], long, nothing)
        self.assertEqual(size_of(caught), 29)

    def test_sizes(self):
        nothing = ([[0]], [False])
        self.assertEqual(race("a", [(1, 1)], counter(23), nothing), ((1, 1), (0, 1), (0, 1), (0, 1)))
        with self.assertRaises(BadSize) as caught:
            race("a", [(1, 1)], counter(24), nothing)
        self.assertEqual(size_of(caught), 25)
        # Behind an end nothing is met, however many states there are.
        self.assertEqual(race("a", [(1, 1)], counter(40), cycle(50, 3)), ((0, 1), (1, 1), (0, 1), (0, 1)))
        # 24 pairs are met, of 8 times 12 states, and 35 of 5 times 7.
        self.assertEqual(race("a", [(1, 1)], cycle(8, 7), cycle(12, 11)), ((1, 1), (0, 1), (0, 1), (0, 1)))
        early = ([[1]] + [[k + 1] for k in range(1, 24)] + [[0]], [False] * 24 + [True])
        with self.assertRaises(BadSize) as caught:
            race("a", [(1, 1)], early, nothing)
        self.assertEqual(size_of(caught), 25)
        self.assertEqual(race("a", [(1, 1)], cycle(24, 23), nothing), ((1, 1), (0, 1), (0, 1), (0, 1)))


if __name__ == "__main__":
    unittest.main()
