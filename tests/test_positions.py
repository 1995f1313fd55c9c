import random
import unittest

from helpers import all_ways, all_words, check_new, in_row_of, some_choices, some_plain_rules

from hallofwords.errors import BadRule, BadSize, TooGreat, TooMany
from hallofwords.making import machine_of
from hallofwords.numbers import count
from hallofwords.positions import (
    count_roads,
    double_paper,
    double_word,
    is_double_paper,
    positions_of,
    two_ways,
    useful_positions,
    ways_of_length,
)
from hallofwords.ways import count_ways, is_way, ways, weight_of

NONE, EMPTY = ("none",), ("empty",)
A, B, ANY = ("one", "a"), ("one", "b"), ("one", "ab")
MAYBE = ("either", [A, EMPTY])
DOTS = {"a": 6, "ab": 4, "ba": 4, "abc": 3}
FUNCTIONS = (
    positions_of,
    useful_positions,
    lambda letters, rule: count_roads(letters, rule, "ab"),
    lambda letters, rule: ways_of_length(letters, rule, 3),
    double_word,
    two_ways,
    double_paper,
    lambda letters, rule: is_double_paper(letters, rule, (0, [], [], [], [])),
)
# Two rings of 20 and of 19 signs that meet in a word of 360 signs for the first time.
RINGS = ("either", [("times", in_row_of("a", 20), 0, None),
                    ("row", [in_row_of("a", 18), ("times", in_row_of("a", 19), 0, None)])])


def slow_numbers(rule):
    """The numbers, straight from point 33: signs by position, E, and dicts of B, D and S; a position is a tuple."""
    kind = rule[0]
    if kind in ("none", "empty"):
        return {}, int(kind == "empty"), {}, {}, {}
    if kind == "one":
        return {(): rule[1]}, 0, {(): 1}, {(): 1}, {((), ()): 0}
    if kind == "times":
        return slow_times(*rule[1:])
    told = [slow_numbers(inner) for inner in rule[1]]
    if kind == "row" and len(told) > 2:
        told = [slow_numbers(("row", rule[1][:-1])), told[-1]]
    if kind == "either":
        signs, e, b, d, s = {}, sum(inner[1] for inner in told), {}, {}, {}
        for k, inner in enumerate(told):
            signs.update({(k, p): value for p, value in inner[0].items()})
            b.update({(k, p): value for p, value in inner[2].items()})
            d.update({(k, p): value for p, value in inner[3].items()})
        for p in signs:
            for q in signs:
                s[p, q] = told[p[0]][4][p[1], q[1]] if p[0] == q[0] else 0
        return signs, e, b, d, s
    if len(told) == 1:
        return told[0]
    (signs_r, e_r, b_r, d_r, s_r), (signs_s, e_s, b_s, d_s, s_s) = told
    signs = {**{("r", p): signs_r[p] for p in signs_r}, **{("s", p): signs_s[p] for p in signs_s}}
    b = {p: b_r[p[1]] if p[0] == "r" else e_r * b_s[p[1]] for p in signs}
    d = {p: d_r[p[1]] * e_s if p[0] == "r" else d_s[p[1]] for p in signs}
    s = {}
    for p in signs:
        for q in signs:
            if p[0] == q[0]:
                s[p, q] = (s_r if p[0] == "r" else s_s)[p[1], q[1]]
            else:
                s[p, q] = d_r[p[1]] * b_s[q[1]] if p[0] == "r" else 0
    return signs, e_r * e_s, b, d, s


def slow_times(rule, low, high):
    signs, e, b, d, s = slow_numbers(rule)
    copies = range(1, (low + 1 if high is None else high) + 1)
    every = {(i, p): signs[p] for i in copies for p in signs}
    begins = {(i, p): b[p] * e ** (i - 1) if i <= low + 1 else 0 for i, p in every}
    ends = {(i, p): d[p] * e ** (low - i) if i <= low else d[p] for i, p in every}
    steps = {}
    for i, p in every:
        for j, q in every:
            number = 0
            if i < j <= low + 1:
                number = d[p] * b[q] * e ** (j - i - 1)
            elif i > low and j == i + 1:
                number = d[p] * b[q]
            elif i == j:
                number = s[p, q]
                if high is None and i == low + 1:
                    number += d[p] * b[q]
            steps[(i, p), (j, q)] = number
    return every, e ** low, begins, ends, steps


def in_lists(numbers):
    signs, e, b, d, s = numbers
    return (list(signs.values()), e, [b[p] for p in signs], [[s[p, q] for q in signs] for p in signs],
            [d[p] for p in signs])


def slow_useful(numbers):
    signs, _, begins, steps, ends = numbers
    many = range(len(signs))
    come = [p for p in many if begins[p]]
    for p in come:
        come += [q for q in many if steps[p][q] and q not in come]
    out = [p for p in many if ends[p]]
    for q in out:
        out += [p for p in many if steps[p][q] and p not in out]
    return [p for p in many if p in come and p in out]


def roads_of(numbers, word):
    """All roads for a word with signs, with their worths, straight from point 34."""
    signs, _, begins, steps, ends = numbers
    roads = [([p], begins[p]) for p in range(len(signs)) if word[0] in signs[p] and begins[p]]
    for sign in word[1:]:
        roads = [(road + [q], worth * steps[road[-1]][q]) for road, worth in roads
                 for q in range(len(signs)) if sign in signs[q] and steps[road[-1]][q]]
    return [(road, worth * ends[road[-1]]) for road, worth in roads if ends[road[-1]]]


def slow_demanded(paper, signs):
    """The pairs that are demanded, straight from points 36 and 37."""
    _, begins, steps, _, _ = paper
    many = range(len(signs))

    def common(i, j):
        return any(sign in signs[j] for sign in signs[i])

    pairs = [(i, j) for i in many for j in many if i < j and common(i, j) and begins[i] == begins[j] == 1]
    for row in steps:
        pairs += [(i, j) for i in many for j in many if i < j and common(i, j) and row[i] == row[j] == 1]
    pairs = sorted(set(pairs))
    for p, q in pairs:
        for i in many:
            for j in many:
                if steps[p][i] == steps[q][j] == 1 and common(i, j) and (min(i, j), max(i, j)) not in pairs:
                    pairs.append((min(i, j), max(i, j)))
    return sorted(pairs)


class ErrorsTest(unittest.TestCase):
    def test_both_and_not_deep_within(self):
        for part in (("both", [A]), ("not", A), ("both", [A, B])):
            for rule in (part, ("row", [A, part]), ("either", [A, ("row", [EMPTY, ("times", part, 0, 0)])]),
                         ("times", ("times", part, 1, 2), 0, None)):
                for function in FUNCTIONS:
                    with self.assertRaises(BadRule):
                        function("ab", rule)

    def test_bad_rule_ahead_of_the_weight(self):
        heavy = ("times", ("times", A, 8, 8), 8, 8)
        for rule in (("row", [heavy, ("not", A)]), ("either", [("both", [A]), heavy])):
            for function in FUNCTIONS:
                with self.assertRaises(BadRule):
                    function("ab", rule)

    def test_weights_60_and_61(self):
        six = ("row", [A] * 6)
        sixty = ("either", [("row", [("times", B, 0, 8)] * 6), six, ("row", [EMPTY] * 6)])
        self.assertEqual(weight_of(sixty), 60)
        self.assertEqual(len(positions_of("ab", sixty)[0]), 54)
        for function in FUNCTIONS:
            function("ab", sixty)
            with self.assertRaises(BadSize) as caught:
                function("ab", ("either", [sixty, NONE]))
            self.assertEqual(caught.exception.size, 61)
        with self.assertRaises(BadSize) as caught:
            double_word("ab", ("times", ("times", A, 8, None), 8, 8))
        self.assertEqual(caught.exception.size, 72)


class NumbersTest(unittest.TestCase):
    def test_every_form(self):
        for rule, told in (
            (NONE, ([], 0, [], [], [])),
            (EMPTY, ([], 1, [], [], [])),
            (ANY, (["ab"], 0, [1], [[0]], [1])),
            (("either", [A, EMPTY, B]), (["a", "b"], 1, [1, 1], [[0, 0], [0, 0]], [1, 1])),
            (("row", [A]), (["a"], 0, [1], [[0]], [1])),
            (("row", [A, B]), (["a", "b"], 0, [1, 0], [[0, 1], [0, 0]], [0, 1])),
            (("row", [MAYBE, ("either", [B, EMPTY, EMPTY])]), (["a", "b"], 2, [1, 1], [[0, 1], [0, 0]], [2, 1])),
            (("row", [A, NONE]), (["a"], 0, [1], [[0]], [0])),
            (("times", A, 0, None), (["a"], 1, [1], [[1]], [1])),
            (("times", A, 0, 0), ([], 1, [], [], [])),
            (("times", A, 1, None), (["a", "a"], 0, [1, 0], [[0, 1], [0, 1]], [1, 1])),
            (("times", A, 0, 2), (["a", "a"], 1, [1, 0], [[0, 1], [0, 0]], [1, 1])),
            (("times", A, 2, 3), (["a"] * 3, 0, [1, 0, 0], [[0, 1, 0], [0, 0, 1], [0, 0, 0]], [0, 1, 1])),
            (("times", MAYBE, 2, 3), (["a"] * 3, 1, [1, 1, 1], [[0, 1, 1], [0, 0, 1], [0, 0, 0]], [1, 1, 1])),
            (("times", ("either", [A, EMPTY, EMPTY]), 2, None),
             (["a"] * 3, 4, [1, 2, 4], [[0, 1, 2], [0, 0, 1], [0, 0, 1]], [2, 1, 1])),
            (("times", EMPTY, 3, None), ([], 1, [], [], [])),
            (("times", NONE, 0, 3), ([], 1, [], [], [])),
            (("times", NONE, 1, 3), ([], 0, [], [], [])),
        ):
            self.assertEqual(positions_of("ab", rule), told, rule)

    def test_made_up_rules(self):
        for letters, rule in some_plain_rules(301, 400):
            if weight_of(rule) <= 24:
                told = positions_of(letters, rule)
                self.assertEqual(told, in_lists(slow_numbers(rule)), rule)
                self.assertLessEqual(len(told[0]), weight_of(rule))
                self.assertEqual(useful_positions(letters, rule), slow_useful(told), rule)

    def test_times_within_times(self):
        rule = ("times", ("times", ("either", [A, EMPTY, EMPTY]), 2, None), 3, 4)
        self.assertEqual(positions_of("ab", rule), in_lists(slow_numbers(rule)))
        self.assertEqual(positions_of("ab", rule)[1], 64)

    def test_useful_positions(self):
        for rule, useful in (
            (A, [0]),
            (NONE, []),
            (("row", [A, NONE]), []),
            (("either", [("row", [A, NONE, B]), B, ("row", [NONE, A])]), [2]),
            (("row", [("either", [A, ("row", [B, NONE])]), ("times", B, 0, None)]), [0, 2]),
            (("times", ("row", [MAYBE, ("either", [B, NONE])]), 0, None), [0, 1]),
        ):
            self.assertEqual(useful_positions("ab", rule), useful, rule)

    def test_nothing_modified_and_all_new(self):
        rule = ("row", [("times", ("either", [A, EMPTY]), 1, None), ("either", [B, ("row", [A, B])])])
        for function in FUNCTIONS:
            check_new(self, function, "ab", rule)


class RoadsTest(unittest.TestCase):
    def test_roads_of_made_up_rules(self):
        for letters, rule in some_plain_rules(302, 250):
            if weight_of(rule) <= 12:
                numbers = positions_of(letters, rule)
                for word in all_words(letters, DOTS[letters] - 1):
                    many = count_roads(letters, rule, word)
                    self.assertEqual(many, count_ways(letters, rule, word), (rule, word))
                    worths = [worth for _, worth in roads_of(numbers, word)] if word else [numbers[1]]
                    self.assertEqual(many, sum(worths), (rule, word))

    def test_words_of_thirty_signs(self):
        for letters, rule in some_plain_rules(303, 60, letters=("a", "ab")):
            if weight_of(rule) <= 30:
                for word in ("a" * 30, "ab"[:len(letters)] * 15):
                    self.assertEqual(count_roads(letters, rule, word), count_ways(letters, rule, word), rule)

    def test_words_of_hundreds_of_signs(self):
        fib = ("times", ("either", [A, ("row", [A, A])]), 0, None)
        one, other = 1, 1
        for _ in range(500):
            one, other = other, one + other
        self.assertEqual(count_roads("ab", fib, "a" * 500), one)
        self.assertEqual(count_roads("ab", fib, "a" * 499 + "b"), 0)
        self.assertEqual(count_roads("ab", ("times", ("either", [A, A, B]), 0, None), "ab" * 1000), 2 ** 1000)
        self.assertEqual(count_roads("ab", ("times", ANY, 8, None), "ba" * 300), 1)
        self.assertEqual(count_roads("ab", ("times", ANY, 8, None), "ba" * 3), 0)

    def test_ways_of_length(self):
        for letters, rule in some_plain_rules(304, 150):
            if weight_of(rule) <= 12:
                for length in range(DOTS[letters]):
                    words = [word for word in all_words(letters, length) if len(word) == length]
                    self.assertEqual(ways_of_length(letters, rule, length),
                                     sum(count_roads(letters, rule, word) for word in words), (rule, length))

    def test_ways_of_great_lengths(self):
        rule = ("times", ("either", [("one", "abc"), ("one", "ab")]), 0, None)
        self.assertEqual(ways_of_length("abc", rule, 200), 5 ** 200)
        self.assertEqual(ways_of_length("abc", rule, 0), 1)
        self.assertEqual(ways_of_length("abc", ("either", [EMPTY, EMPTY]), 0), 2)
        self.assertEqual(ways_of_length("abc", NONE, 0), 0)


class DoubleTest(unittest.TestCase):
    def test_first_ones(self):
        for rule, told in (
            (NONE, None),
            (EMPTY, None),
            (A, None),
            (("either", [EMPTY, EMPTY]), ("", (0, ()), (1, ()))),
            (("times", ("either", [EMPTY, EMPTY]), 2, 2),
             ("", [("", (0, ())), ("", (0, ()))], [("", (0, ())), ("", (1, ()))])),
            (("times", ("either", [EMPTY, EMPTY]), 0, 8), None),
            (("either", [A, ANY]), ("a", (0, "a"), (1, "a"))),
            (("either", [B, ("row", [ANY])]), ("b", (0, "b"), (1, [("b", "b")]))),
            (("row", [ANY, ("either", [B, B])]), ("ab", [("a", "a"), ("b", (0, "b"))], [("a", "a"), ("b", (1, "b"))])),
            (("row", [ANY, ("either", [("row", [A, NONE]), A]), ("either", [NONE, B])]), None),
            (("row", [MAYBE, MAYBE]), ("a", [("a", (0, "a")), ("", (1, ()))], [("", (1, ())), ("a", (0, "a"))])),
            (("times", ("either", [A, ("row", [A, A])]), 0, None),
             ("aa", [("aa", (1, [("a", "a"), ("a", "a")]))], [("a", (0, "a")), ("a", (0, "a"))])),
            (("times", ("either", [("row", [A, B]), B, A]), 0, None),
             ("ab", [("ab", (0, [("a", "a"), ("b", "b")]))], [("a", (2, "a")), ("b", (1, "b"))])),
        ):
            self.assertEqual(two_ways("ab", rule), told, rule)
            self.assertEqual(double_word("ab", rule), told and told[0], rule)
            self.assertEqual(double_paper("ab", rule) is None, told is not None, rule)

    def test_order_of_the_letters(self):
        rule = ("either", [A, B, ("one", "ba")])
        self.assertEqual(double_word("ba", rule), "b")
        self.assertEqual(double_word("ab", ("either", [A, B, ANY])), "a")

    def test_made_up_rules(self):
        doubles = 0
        for letters, rule in [*some_plain_rules(305, 300), *some_choices(305, 300)]:
            if weight_of(rule) <= 16:
                found = None
                for word in all_words(letters, DOTS[letters]):
                    if len(ways(letters, rule, word, most=2)) == 2:
                        found = (word, *ways(letters, rule, word, most=2))
                        break
                told = two_ways(letters, rule)
                if found is None and told is not None:
                    self.assertGreater(len(told[0]), DOTS[letters])
                    found = (told[0], *ways(letters, rule, told[0], most=2))
                self.assertEqual(told, found, rule)
                self.assertEqual(double_word(letters, rule), told and told[0])
                if told is not None:
                    doubles += 1
                    many = len(positions_of(letters, rule)[0])
                    self.assertLessEqual(len(told[0]), many * (many - 1) // 2 + 2 * many)
                    self.assertEqual(list(told[1:]), all_ways(rule, told[0])[:2])
        self.assertGreater(doubles, 50)

    def test_words_of_many_signs(self):
        self.assertEqual(weight_of(RINGS), 57)
        word, one, other = two_ways("ab", RINGS)
        self.assertEqual(word, "a" * 360)
        self.assertEqual((one[0], other[0]), (0, 1))
        self.assertIs(is_way("ab", RINGS, word, one), True)
        self.assertIs(is_way("ab", RINGS, word, other), True)
        self.assertEqual(count_roads("ab", RINGS, word), 2)
        self.assertEqual([len(part) for part, _ in one[1]], [20] * 18)
        self.assertEqual([len(part) for part, _ in other[1]], [18, 342])

    def test_many_ways_of_one_word(self):
        rule = ("times", ("either", [A, A, A]), 8, 8)
        word, one, other = two_ways("ab", rule)
        self.assertEqual(word, "a" * 8)
        self.assertEqual(one, [("a", (0, "a"))] * 8)
        self.assertEqual(other, [("a", (0, "a"))] * 7 + [("a", (1, "a"))])

    def test_dense_steps(self):
        any_sign = ("one", "abcdef")
        rule = ("row", [("times", ("either", [("either", [any_sign] * 6)] * 6), 0, None), ("times", any_sign, 8, 8)])
        word, one, other = two_ways("abcdef", rule)
        self.assertEqual(word, "a" * 9)
        self.assertEqual((one[0], other[0]), (("a", [("a", (0, (0, "a")))]), ("a", [("a", (0, (1, "a")))])))


class PaperTest(unittest.TestCase):
    def papers(self, seed, number, least=0):
        for letters, rule in [*some_plain_rules(seed, number), *some_choices(seed, number)]:
            if weight_of(rule) <= 24:
                paper = double_paper(letters, rule)
                if paper is not None and len(paper[4]) >= least:
                    yield letters, rule, paper

    def test_what_is_demanded(self):
        long = 0
        for letters, rule, paper in self.papers(306, 400):
            signs, e, begins, steps, ends = positions_of(letters, rule)
            useful = useful_positions(letters, rule)
            kept = [
                e,
                [number if p in useful else 0 for p, number in enumerate(begins)],
                [[number if p in useful and q in useful else 0 for q, number in enumerate(row)]
                 for p, row in enumerate(steps)],
                [number if p in useful else 0 for p, number in enumerate(ends)],
            ]
            self.assertEqual(list(paper[:4]), kept)
            self.assertEqual(paper[4], slow_demanded(paper, signs), rule)
            self.assertIs(is_double_paper(letters, rule, paper), True)
            long += len(paper[4]) > 2
        self.assertGreater(long, 10)

    def test_examples(self):
        rule = ("either", [("row", [A, A]), ("row", [A, B])])
        self.assertEqual(double_paper("ab", rule), (0, [1, 0, 1, 0], [[0, 1, 0, 0], [0] * 4, [0, 0, 0, 1], [0] * 4],
                                                    [0, 1, 0, 1], [(0, 2)]))
        self.assertEqual(double_paper("ab", ("row", [A, NONE])), (0, [0], [[0]], [0], []))
        self.assertEqual(double_paper("ab", EMPTY), (1, [], [], [], []))

    def test_there_is_none_beside_a_double_word(self):
        rng = random.Random(307)
        for letters, rule in some_plain_rules(308, 150):
            if weight_of(rule) <= 8 and double_word(letters, rule) is not None:
                signs, e, begins, steps, ends = positions_of(letters, rule)
                every = [(p, q) for p in range(len(signs)) for q in range(p, len(signs))]
                for _ in range(20):
                    pairs = [pair for pair in every if rng.random() < 0.7]
                    self.assertIs(is_double_paper(letters, rule, (e, begins, steps, ends, pairs)), False)
                self.assertIs(is_double_paper(letters, rule, (e, begins, steps, ends, every)), False)

    def test_numbers_greater_than_one(self):
        """The numbers are those of the rule, and no pair is wrong, but one of them is 2."""
        two = ("either", [EMPTY, EMPTY])
        for rule, paper in (
            (two, (2, [], [], [], [])),
            (("row", [A, two]), (0, [1], [[0]], [2], [])),
            (("row", [two, A]), (0, [2], [[0]], [1], [])),
            (("row", [A, two, B]), (0, [1, 0], [[0, 2], [0, 0]], [0, 1], [])),
            (("row", [two, A, B]), (0, [2, 0], [[0, 1], [0, 0]], [0, 1], [])),
            (("either", [two, ("row", [A, B])]), (2, [1, 0], [[0, 1], [0, 0]], [0, 1], [])),
        ):
            signs, *numbers = positions_of("ab", rule)
            self.assertEqual(numbers, list(paper[:4]))
            every = [(p, q) for p in range(len(signs)) for q in range(p, len(signs))]
            for pairs in ([], every, every[:1], every[1:]):
                self.assertIs(is_double_paper("ab", rule, paper[:4] + (pairs,)), False)
            self.assertIsNone(double_paper("ab", rule))
            self.assertIsNotNone(double_word("ab", rule))

    def test_changed_numbers(self):
        for letters, rule, (e, begins, steps, ends, pairs) in self.papers(309, 80, least=1):
            for change in (1, -1):
                self.assertIs(is_double_paper(letters, rule, (e + change, begins, steps, ends, pairs)), False)
                for k in range(len(begins)):
                    one = begins[:k] + [begins[k] + change] + begins[k + 1:]
                    self.assertIs(is_double_paper(letters, rule, (e, one, steps, ends, pairs)), False)
                    one = ends[:k] + [ends[k] + change] + ends[k + 1:]
                    self.assertIs(is_double_paper(letters, rule, (e, begins, steps, one, pairs)), False)
                    row = steps[k][:-1] + [steps[k][-1] + change]
                    one = steps[:k] + [row] + steps[k + 1:]
                    self.assertIs(is_double_paper(letters, rule, (e, begins, one, ends, pairs)), False)
            for one in (begins + [0], begins[:-1], []):
                self.assertIs(is_double_paper(letters, rule, (e, one, steps, ends, pairs)), False)
            for one in (ends + [0], ends[:-1]):
                self.assertIs(is_double_paper(letters, rule, (e, begins, steps, one, pairs)), False)
            for one in (steps + [[]], steps[:-1], [row + [0] for row in steps], [row[:-1] for row in steps]):
                self.assertIs(is_double_paper(letters, rule, (e, begins, one, ends, pairs)), False)

    def test_changed_pairs(self):
        seen = {True: 0, False: 0}
        for letters, rule, paper in self.papers(310, 200, least=1):
            pairs = paper[4]
            signs = positions_of(letters, rule)[0]
            many = len(signs)
            for k, (p, q) in enumerate(pairs):
                wrong = [pairs[:k] + pairs[k + 1:], pairs[:k + 1] + pairs[k:], pairs[:k] + [(q, p)] + pairs[k + 1:]]
                if len(pairs) > 1:
                    wrong.append(pairs[::-1])
                for value in wrong:
                    self.assertIs(is_double_paper(letters, rule, paper[:4] + (value,)), False, (rule, value))
            for odd in ((-1, 0), (0, many), (many, many), (-1, -1), (0, 10 ** 30), (-10 ** 30, 0)):
                self.assertIs(is_double_paper(letters, rule, paper[:4] + (sorted(pairs + [odd]),)), False)
            for p in range(many):
                for q in range(p, many):
                    if (p, q) not in pairs:
                        more = sorted(pairs + [(p, q)])
                        right = self.slow_right(paper[:4] + (more,), signs)
                        seen[right] += 1
                        self.assertIs(is_double_paper(letters, rule, paper[:4] + (more,)), right, (rule, more))
        self.assertGreater(min(seen.values()), 20)

    def slow_right(self, paper, signs):
        _, begins, steps, ends, pairs = paper
        many = range(len(signs))
        for i in many:
            for j in many:
                if any(sign in signs[j] for sign in signs[i]):
                    due = i != j and begins[i] == begins[j] == 1
                    due = due or i != j and any(row[i] == row[j] == 1 for row in steps)
                    due = due or any(steps[p][i] == steps[q][j] == 1 for p, q in pairs)
                    if due and (min(i, j), max(i, j)) not in pairs:
                        return False
        return not any(ends[p] == ends[q] == 1 for p, q in pairs)

    def test_many_more_pairs_than_demanded(self):
        rule = ("row", [A, B, A, B, ANY])
        paper = double_paper("ab", rule)
        self.assertEqual(paper[4], [])
        every = [(p, q) for p in range(5) for q in range(p, 5) if (p, q) != (4, 4)]
        self.assertIs(is_double_paper("ab", rule, paper[:4] + (every,)), False)
        every = [(p, q) for p in range(5) for q in range(p + 1, 5)]
        self.assertIs(is_double_paper("ab", rule, paper[:4] + (every,)), True)
        useless = ("either", [("row", [A, A, NONE]), A])
        paper = double_paper("ab", useless)
        self.assertEqual(paper[4], [])
        self.assertIs(is_double_paper("ab", useless, paper[:4] + ([(0, 0), (0, 1), (0, 2), (1, 1), (1, 2)],)), True)
        self.assertIs(is_double_paper("ab", useless, paper[:4] + ([(2, 2)],)), False)

    def test_numbers_of_words(self):
        """Point 38: t(n) and the number of words with n signs."""
        doubles = 0
        for letters, rule in [*some_plain_rules(311, 120), *some_choices(311, 80)]:
            if weight_of(rule) <= 12:
                try:
                    machine = machine_of(letters, rule)
                except (TooMany, TooGreat):
                    continue
                most = len(machine[0]) + len(positions_of(letters, rule)[0])
                told = [ways_of_length(letters, rule, n) for n in range(most + 1)]
                numbers = [count(letters, machine, n) for n in range(most + 1)]
                self.assertTrue(all(one >= other for one, other in zip(told, numbers)))
                word = double_word(letters, rule)
                unlike = [n for n in range(most + 1) if told[n] > numbers[n]]
                self.assertEqual(unlike[:1], [] if word is None else [len(word)], rule)
                doubles += word is not None
        self.assertGreater(doubles, 10)


if __name__ == "__main__":
    unittest.main()
