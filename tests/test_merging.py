import random
import unittest

from helpers import all_words, check_new, counter, cycle, some_machine, some_machines, taken, taken_words

from hallofwords.errors import BadSize, Contradiction, TooGreat
from hallofwords.learning import fits, least_fit, unlike_words
from hallofwords.leastness import access_words, parting_words
from hallofwords.machines import least
from hallofwords.merging import merged_fit, sample_of


def in_their_order(letters, words):
    return sorted(set(words), key=lambda word: (len(word), [letters.index(sign) for sign in word]))


def parts_joined(parts, letters, beginnings, u, v):
    """The parts of the beginnings when u and v are put together, and all that follows, straight from point 97."""
    parts = [set(part) for part in parts]

    def part_of(word):
        return next(part for part in parts if word in part)

    def put(one, other):
        if part_of(one) is not part_of(other):
            first, second = part_of(one), part_of(other)
            parts.remove(second)
            first |= second

    put(u, v)
    while True:
        missing = [(a + x, b + x) for part in parts for a in part for b in part for x in letters
                   if a + x in beginnings and b + x in beginnings and part_of(a + x) is not part_of(b + x)]
        if not missing:
            return parts
        put(*missing[0])


def slow_merged(letters, yes, no):
    """What merging makes, as (kept words, table, ends), before it is made least; None if too many are kept."""
    beginnings = in_their_order(letters, [""] + [w[:k] for w in yes + no for k in range(len(w) + 1)])
    parts = [{word} for word in beginnings]
    kept = [""]
    for word in beginnings[1:]:
        if any(word in part and other in part for part in parts for other in kept):
            continue
        for other in kept:
            tried = parts_joined(parts, letters, beginnings, other, word)
            if not any(part & set(yes) and part & set(no) for part in tried):
                parts = tried
                break
        else:
            kept.append(word)
    if len(kept) > 20:
        return None
    table = []
    for word in kept:
        part = next(part for part in parts if word in part)
        row = []
        for x in letters:
            reached = [other + x for other in part if other + x in beginnings]
            row.append(kept.index(next(k for k in kept for part in parts if k in part and reached[0] in part))
                       if reached else 0)
        table.append(row)
    return kept, table, [bool(next(part for part in parts if word in part) & set(yes)) for word in kept]


def some_lists(rng, letters, longest, most):
    words = [rng.choice(all_words(letters, longest)) for _ in range(rng.randint(0, most))]
    if rng.random() < 0.8:
        machine = some_machine(rng, letters, 6)
        return ([word for word in words if taken(letters, machine, word)],
                [word for word in words if not taken(letters, machine, word)])
    yes = [word for word in words if rng.random() < 0.5]
    return yes, [word for word in words if word not in yes]


class SampleTest(unittest.TestCase):
    def test_made_up_machines(self):
        sizes = set()
        for letters, machine in some_machines(1011, 150, most=7):
            m = least(letters, machine)
            begins = [""] + [word + sign for word in access_words(letters, m) for sign in letters]
            ends = [""] + parting_words(letters, m)
            words = in_their_order(letters, [begin + end for begin in begins for end in ends])
            yes, no = check_new(self, sample_of, letters, machine)
            self.assertEqual(yes, [word for word in words if taken(letters, machine, word)])
            self.assertEqual(no, [word for word in words if not taken(letters, machine, word)])
            n = len(m[0])
            self.assertLessEqual(len(words), n * (len(letters) * n + 1))
            if n > 1:
                self.assertLessEqual(max(map(len, words)), 2 * n - 2)
            sizes.add(n)
        self.assertGreaterEqual(sizes, {1, 2, 3, 4, 5})

    def test_examples(self):
        self.assertEqual(sample_of("ab", ([[0, 0]], [True])), (["", "a", "b"], []))
        self.assertEqual(sample_of("ba", ([[0, 0]], [False])), ([], ["", "b", "a"]))
        self.assertEqual(sample_of("a", ([[1], [0]], [True, False])), (["", "aa"], ["a"]))

    def test_sizes(self):
        for machine, size in ((cycle(8, 0), 8), (cycle(9, 0), 9), (counter(6), 8), (counter(7), 9), (cycle(60, 0), 60)):
            if size <= 8:
                yes, no = sample_of("a", machine)
                self.assertEqual(merged_fit("a", yes, no), least("a", machine))
            else:
                with self.assertRaises(BadSize) as caught:
                    sample_of("a", machine)
                self.assertEqual(caught.exception.size, size)
        # More states are handed in, but the least machine has fewer.
        self.assertEqual(sample_of("a", cycle(60, *range(0, 60, 2))), sample_of("a", cycle(2, 0)))
        self.assertEqual(sample_of("a", cycle(10, 0, 5)), sample_of("a", cycle(5, 0)))


class MergingTest(unittest.TestCase):
    def test_against_the_document(self):
        rng = random.Random(1021)
        sizes = {}
        for _ in range(250):
            letters = rng.choice(["a", "ab", "ba", "abc"])
            yes, no = some_lists(rng, letters, 4, 10)
            found = check_new(self, merged_fit, letters, yes, no)
            kept, table, ends = slow_merged(letters, yes, no)
            self.assertEqual(found, least(letters, (table, ends)))
            self.assertEqual(len(found[0]), len(kept))
            self.assertTrue(fits(letters, found, yes, no))
            self.assertGreaterEqual(len(found[0]), len(unlike_words(letters, yes, no)))
            rng.shuffle(yes)
            rng.shuffle(no)
            self.assertEqual(merged_fit(letters, yes + yes[:2], no[:2] + no), found)
            sizes[len(kept)] = sizes.get(len(kept), 0) + 1
        self.assertGreater(min(sizes[many] for many in (1, 2, 3, 4)), 5)

    def test_no_words(self):
        self.assertEqual(merged_fit("ab", [], []), ([[0, 0]], [False]))
        self.assertEqual(merged_fit("ab", ["ab"], []), ([[0, 0]], [True]))
        self.assertEqual(merged_fit("ab", [], ["ab", ""]), ([[0, 0]], [False]))
        self.assertEqual(merged_fit("ab", [""], []), ([[0, 0]], [True]))

    def test_a_joining_that_fails_leaves_all_as_it_was(self):
        # Putting "a" to "" would bring "aa" to "a"; that "b" follows from it is found before it fails.
        yes, no = ["a", "ab"], ["", "aa", "b"]
        kept, table, ends = slow_merged("ab", yes, no)
        self.assertEqual(merged_fit("ab", yes, no), least("ab", (table, ends)))
        self.assertTrue(fits("ab", merged_fit("ab", yes, no), yes, no))

    def test_contradictions(self):
        for yes, no, word in (
            ([""], [""], ""),
            (["ab", "b", "a"], ["b", "ab"], "b"),
            (["ab", "b", "bb"], ["ab", "bb"], "ab"),
            (["ba", "ab"], ["ba", "ab", "a"], "ab"),
        ):
            with self.assertRaises(Contradiction) as caught:
                merged_fit("ab", yes, no)
            self.assertEqual(caught.exception.word, word)
        with self.assertRaises(Contradiction) as caught:
            merged_fit("ba", ["ba", "ab"], ["ba", "ab", "a"])
        self.assertEqual(caught.exception.word, "ba")

    def test_twenty_and_twenty_one(self):
        for many, seed in ((19, 1), (20, 2), (21, 3), (22, 4)):
            yes, no, machine = great_sample(many, seed)
            self.assertLessEqual(len(yes + no), 400)
            self.assertLessEqual(max(map(len, yes + no)), 16)
            if many <= 20:
                self.assertEqual(merged_fit("ab", yes, no), machine)
            else:
                with self.assertRaises(TooGreat):
                    merged_fit("ab", yes, no)

    def test_contradiction_stands_ahead_of_too_great(self):
        yes, no, _ = great_sample(21, 5)
        with self.assertRaises(Contradiction) as caught:
            merged_fit("ab", yes + no[-1:] + ["bab"], ["bab"] + no)
        self.assertEqual(caught.exception.word, "bab")


def great_sample(many, seed):
    """The sample, as point 96 says, of some least machine with so many states, with that machine."""
    rng = random.Random(seed)
    while True:
        table = [[rng.randrange(many), rng.randrange(many)] for _ in range(many)]
        machine = least("ab", (table, [rng.random() < 0.5 for _ in range(many)]))
        if len(machine[0]) == many:
            begins = [""] + [word + sign for word in access_words("ab", machine) for sign in "ab"]
            words = {begin + end for begin in begins for end in [""] + parting_words("ab", machine)}
            if len(words) <= 390 and max(map(len, words)) <= 16:
                yes = [word for word in words if taken("ab", machine, word)]
                return sorted(yes), sorted(words - set(yes)), machine


class SameMachineTest(unittest.TestCase):
    def test_sample_leads_back(self):
        rng = random.Random(1031)
        sizes = set()
        for letters, machine in some_machines(1032, 200, most=8):
            m = least(letters, machine)
            yes, no = sample_of(letters, machine)
            self.assertEqual(merged_fit(letters, yes, no), m)
            # More words change nothing, as long as they are told as the machine takes them.
            more = [rng.choice(all_words(letters, 6)) for _ in range(40)]
            yes += [word for word in more if taken(letters, m, word)]
            no += [word for word in more if not taken(letters, m, word)]
            rng.shuffle(yes)
            self.assertEqual(merged_fit(letters, yes, no[::-1]), m)
            sizes.add(len(m[0]))
        self.assertGreaterEqual(sizes, {1, 2, 3, 4, 5, 6})

    def test_all_short_words(self):
        tried = 0
        for letters, machine in some_machines(1033, 120, most=4):
            m = least(letters, machine)
            n = len(m[0])
            words = all_words(letters, 2 * n - 2)
            yes = taken_words(letters, m, 2 * n - 2)
            no = [word for word in words if word not in yes]
            if len(words) <= 400:
                self.assertEqual(merged_fit(letters, yes, no), m)
            if len(letters) * n <= 9 and len(words) <= 150:
                self.assertEqual(least_fit(letters, yes, no, n), m)
                tried += 1
        self.assertGreater(tried, 60)


if __name__ == "__main__":
    unittest.main()
