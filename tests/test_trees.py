import copy
import itertools
import random
import unittest

from growing import Endless, Growing, parts_in, some_sheets, words_of
from helpers import all_ways, all_words, check_new, some_rules

from hallofwords.errors import Ring, TooMany
from hallofwords.sheets import check_sheet
from hallofwords.trees import (
    count_trees, endless_paper, is_endless_paper, is_in, is_tree, place_of_tree, tree_at, trees
)

ONE = ("one", "a")
EMPTY = ("empty",)
# Each word of n signs is cut into two in all ways: as many trees as Catalan's numbers say.
CUTS = [("s", ("either", [("row", [("name", "s"), ("name", "s")]), ONE]))]
LOOSE = [("s", ("either", [("row", [("name", "s"), ("name", "s")]), ONE, EMPTY]))]


def some_cases(seed, number, longest=4, **told):
    for rng, letters, sheet in some_sheets(seed, number, **told):
        words = sorted(words_of(sheet, longest)[sheet[0][0]]) or [""]
        chosen = rng.sample(words, min(3, len(words))) + [rng.choice(all_words(letters, longest))]
        for word in chosen:
            yield rng, letters, sheet, word


class CountTest(unittest.TestCase):
    def test_against_all_trees(self):
        seen = {"none": 0, "one": 0, "several": 0, "endless": 0}
        for rng, letters, sheet, word in some_cases(1801, 200):
            growing = Growing(sheet, word)
            belongs = word in growing.told[sheet[0][0]]
            self.assertIs(check_new(self, is_in, letters, sheet, word), belongs)
            try:
                told = growing.all_trees()
            except Endless:
                seen["endless"] += 1
                self.assertIsNone(check_new(self, count_trees, letters, sheet, word))
                continue
            if len(told) >= 3000:
                continue
            self.assertEqual(check_new(self, count_trees, letters, sheet, word), len(told))
            self.assertEqual(len(told) > 0, belongs)
            self.assertEqual(check_new(self, trees, letters, sheet, word), told[:100])
            for most in (0, 1, 2, 7):
                self.assertEqual(trees(letters, sheet, word, most=most), told[:most])
            for place in list(range(min(len(told), 12))) + [len(told), len(told) + 1, 10 ** 18]:
                wanted = told[place] if place < len(told) else None
                self.assertEqual(check_new(self, tree_at, letters, sheet, word, place), wanted)
            for place, tree in list(enumerate(told))[:12] + list(enumerate(told))[-1:]:
                self.assertEqual(check_new(self, place_of_tree, letters, sheet, word, tree), place)
                self.assertIs(check_new(self, is_tree, letters, sheet, word, tree), True)
            seen["none" if not told else "one" if len(told) == 1 else "several"] += 1
        self.assertGreater(min(seen.values()), 30)

    def test_rules_without_names(self):
        # The trees of a rule without names are its ways.
        tried = 0
        for letters, rule in some_rules(1802, 400):
            sheet = [("s", rule)]
            try:
                check_sheet(letters, sheet)
            except ValueError:
                continue
            for word in all_words(letters, 3):
                told = [("s", way) for way in all_ways(rule, word)]
                self.assertEqual(trees(letters, sheet, word), told)
                self.assertEqual(count_trees(letters, sheet, word), len(told))
            tried += 1
        self.assertGreater(tried, 40)

    def test_great_numbers(self):
        catalan = 1
        for n in range(1, 25):
            self.assertEqual(count_trees("a", CUTS, "a" * n), catalan)
            catalan = catalan * 2 * (2 * n - 1) // (n + 1)
        self.assertEqual(count_trees("a", CUTS, ""), 0)
        self.assertEqual(count_trees("ab", CUTS, "ab"), 0)

    def test_ten_to_the_eighteen(self):
        # Each sign has as many trees as "either" has rules: 10 of them for 18 signs are just so many.
        ten = ("either", [("either", [ONE] * 5), ("either", [ONE] * 5)])
        sheet = [("s", ("either", [("row", [ten, ("name", "s")]), EMPTY]))]
        check_sheet("a", sheet)
        word = "a" * 18
        self.assertEqual(count_trees("a", sheet, word), 10 ** 18)
        with self.assertRaises(TooMany):
            count_trees("a", sheet, "a" * 19)
        last = tree_at("a", sheet, word, 10 ** 18 - 1)
        self.assertTrue(is_tree("a", sheet, word, last))
        self.assertEqual(place_of_tree("a", sheet, word, last), 10 ** 18 - 1)
        self.assertIsNone(tree_at("a", sheet, word, 10 ** 18))
        # Of 10 ** 19 trees those up to the place 10 ** 18 can be told, and no place behind it.
        word = "a" * 19
        edge = tree_at("a", sheet, word, 10 ** 18)
        self.assertEqual(place_of_tree("a", sheet, word, edge), 10 ** 18)
        self.assertEqual(len(trees("a", sheet, word)), 100)
        behind = self.next_tree(edge)
        self.assertTrue(is_tree("a", sheet, word, behind))
        with self.assertRaises(TooMany):
            place_of_tree("a", sheet, word, behind)

    def next_tree(self, tree):
        """The tree behind one whose last sign has the first of its trees."""
        name, (place, pairs) = tree
        if pairs[1][0] == "":
            (part, (one, (other, leaf))), rest = pairs
            self.assertEqual((one, other), (0, 0))
            return (name, (place, [(part, (0, (1, leaf))), rest]))
        return (name, (place, [pairs[0], (pairs[1][0], self.next_tree(pairs[1][1]))]))

    def test_one_more_than_that(self):
        # A choice ahead of it brings one tree more.
        ten = ("either", [("either", [ONE] * 5), ("either", [ONE] * 5)])
        words = [("s", ("either", [("row", [ten, ("name", "s")]), EMPTY]))]
        row = [ONE] * 6
        sheet = [("h", ("either", [("name", "s"), ("row", [("row", row), ("row", row), ("row", row)])]))] + words
        check_sheet("a", sheet)
        with self.assertRaises(TooMany):
            count_trees("a", sheet, "a" * 18)
        self.assertEqual(count_trees("a", sheet, "a" * 17), 10 ** 17)
        edge = tree_at("a", sheet, "a" * 18, 10 ** 18)
        self.assertEqual(edge[1][0], 1)
        self.assertEqual(place_of_tree("a", sheet, "a" * 18, edge), 10 ** 18)

    def test_orders(self):
        # The longer first part stands ahead, also that of an inner row.
        self.assertEqual(
            [[part for part, _ in tree[1][1]] for tree in trees("a", CUTS, "aaa")], [["aa", "a"], ["a", "aa"]]
        )
        sheet = [("s", ("row", [("either", [EMPTY, ONE]), ("either", [ONE, EMPTY]), ("either", [ONE, EMPTY])]))]
        self.assertEqual(trees("a", sheet, "a"), [
            ("s", [("a", (1, "a")), ("", (1, ())), ("", (1, ()))]),
            ("s", [("", (0, ())), ("a", (0, "a")), ("", (1, ()))]),
            ("s", [("", (0, ())), ("", (1, ())), ("a", (0, "a"))]),
        ])
        self.assertEqual(trees("a", sheet, "aa", most=1), [("s", [("a", (1, "a")), ("a", (0, "a")), ("", (1, ()))])])

    def test_long_words(self):
        rng = random.Random(1803)
        sheet = [("s", ("either", [("row", [ONE, ("name", "s"), ("one", "b"), ("name", "s")]), EMPTY]))]
        for _ in range(30):
            word = "".join(rng.choice("ab") for _ in range(24))
            depth = 0
            balanced = True
            for sign in word:
                depth += 1 if sign == "a" else -1
                balanced = balanced and depth >= 0
            self.assertIs(is_in("ab", sheet, word), balanced and depth == 0)
        word = "ab" * 12
        self.assertEqual(count_trees("ab", sheet, word), 1)
        tree = trees("ab", sheet, word)[0]
        self.assertEqual((parts_in(tree), place_of_tree("ab", sheet, word, tree)), (12 * 8 + 3, 0))

    def test_many_names(self):
        names = [f"n{k}" for k in range(12)]
        sheet = [(name, ("either", [("row", [("name", names[(k + 1) % 12]), ("name", names[(k + 5) % 12])]),
                                    ("one", "ab")])) for k, name in enumerate(names)]
        check_sheet("ab", sheet)
        for place in (0, 1, 10 ** 9, 3 * 10 ** 11):
            tree = tree_at("ab", sheet, "ab" * 12, place)
            self.assertTrue(is_tree("ab", sheet, "ab" * 12, tree))
            self.assertEqual(place_of_tree("ab", sheet, "ab" * 12, tree), place)


class PartsTest(unittest.TestCase):
    def long_sheet(self, more):
        """A sheet whose only tree for a word of 21 signs has 193 parts, and more."""
        inner = ONE
        for _ in range(5):
            inner = ("either", [inner])
        body = ("either", [("row", [inner, ("name", "s")]), EMPTY])
        head = ("name", "s")
        for _ in range(more):
            head = ("either", [head])
        return [("h", head), ("s", body)]

    def test_200_and_201_parts(self):
        for more in (0, 7, 8):
            sheet = self.long_sheet(more)
            word = "a" * 21
            tree = Growing(sheet, word).all_trees()[0]
            self.assertEqual(parts_in(tree), 193 + more)
            self.assertEqual(count_trees("a", sheet, word), 1)
            self.assertTrue(is_tree("a", sheet, word, tree))
            self.assertEqual(place_of_tree("a", sheet, word, tree), 0)
            self.assertEqual(trees("a", sheet, word, most=0), [])
            self.assertIsNone(tree_at("a", sheet, word, 1))
            if more <= 7:
                self.assertEqual(trees("a", sheet, word), [tree])
                self.assertEqual(tree_at("a", sheet, word, 0), tree)
                continue
            for call in (lambda: trees("a", sheet, word), lambda: trees("a", sheet, word, most=1),
                         lambda: tree_at("a", sheet, word, 0)):
                with self.assertRaises(TooMany):
                    call()

    def test_only_trees_that_are_due(self):
        # The first tree has few parts, the second one more than 200.
        sheet = self.long_sheet(0)
        short = [("row", [("row", [ONE] * 6)] * 3 + [ONE] * 3)]
        sheet = [("q", ("either", short + [("name", "h")]))] + [(name, body) for name, body in sheet]
        for _ in range(3):
            sheet[1] = ("h", ("either", [("either", [("either", [sheet[1][1]])])]))
        self.assertEqual(count_trees("a", sheet, "a" * 21), 2)
        self.assertEqual(len(trees("a", sheet, "a" * 21, most=1)), 1)
        self.assertIsInstance(tree_at("a", sheet, "a" * 21, 0), tuple)
        for call in (lambda: trees("a", sheet, "a" * 21, most=2), lambda: trees("a", sheet, "a" * 21),
                     lambda: tree_at("a", sheet, "a" * 21, 1)):
            with self.assertRaises(TooMany):
                call()

    def test_deep_trees(self):
        # Of 12 names each leads to the next one: nothing hangs on how deep Python may call.
        names = [f"n{k}" for k in range(12)]
        sheet = [(name, ("name", behind)) for name, behind in zip(names, names[1:])]
        sheet += [("n11", ("either", [("row", [ONE, ("name", "n0")]), EMPTY]))]
        word = "a" * 24
        self.assertEqual(count_trees("a", sheet, word), 1)
        with self.assertRaises(TooMany):
            trees("a", sheet, word)
        tree = None
        for signs in range(25):
            tree = (0, [("a", "a"), ("a" * (signs - 1), tree)]) if signs else (1, ())
            for name in names[::-1]:
                tree = (name, tree)
        self.assertGreater(parts_in(tree), 300)
        self.assertTrue(is_tree("a", sheet, word, tree))
        self.assertEqual(place_of_tree("a", sheet, word, tree), 0)


class JudgeTest(unittest.TestCase):
    def test_values_that_are_no_trees(self):
        sheet = [("s", ("row", [("name", "t"), ("either", [ONE, ("name", "t")]), EMPTY])), ("t", ("one", "ab"))]
        right = ("s", [("b", ("t", "b")), ("a", (0, "a")), ("", ())])
        word = "ba"
        self.assertEqual(trees("ab", sheet, word), [right, ("s", [("b", ("t", "b")), ("a", (1, ("t", "a"))), ("", ())])])
        pairs = right[1]
        for value in (
            None, True, False, 0, "", "s", (), [], ("s",), ("s", None), ["s", pairs], ("t", pairs), ("q", pairs), (0, pairs),
            ("s", tuple(pairs)), ("s", pairs, 0), ("s", [list(pair) for pair in pairs]), ("s", pairs[:2]),
            ("s", pairs + [("", ())]), ("s", pairs[::-1]), ("s", [("a", ("t", "a"))] + pairs[1:]),
            ("s", [("b", ("t", "a"))] + pairs[1:]), ("s", [("b", ("s", "b"))] + pairs[1:]),
            ("s", [("b", ["t", "b"])] + pairs[1:]), ("s", [("b", "b")] + pairs[1:]),
            ("s", [("b", ("t", ("b",)))] + pairs[1:]), ("s", [("ba", ("t", "ba"))] + pairs[1:]),
            ("s", pairs[:1] + [("a", (False, "a")), pairs[2]]), ("s", pairs[:1] + [("a", (1, "a")), pairs[2]]),
            ("s", pairs[:1] + [("a", (True, ("t", "a"))), pairs[2]]), ("s", pairs[:1] + [("a", (2, "a")), pairs[2]]),
            ("s", pairs[:1] + [("a", (-1, ("t", "a"))), pairs[2]]), ("s", pairs[:1] + [("a", (0, "b")), pairs[2]]),
            ("s", pairs[:1] + [("a", ("0", "a")), pairs[2]]), ("s", pairs[:1] + [("a", "a"), pairs[2]]),
            ("s", pairs[:1] + [("", (0, "a")), pairs[2]]), ("s", pairs[:1] + [("", (0, "")), ("a", ())]),
            ("s", pairs[:2] + [("", [])]), ("s", pairs[:2] + [("", "")]), ("s", pairs[:2] + [("", None)]),
            ("s", pairs[:2] + [("", ((),))]), ("s", pairs[:2] + [("a", ())]), ("s", pairs[:2] + [(None, ())]),
            ("s", pairs[:2] + [((), ())]), ("s", pairs[:2] + [("",)]), ("s", pairs[:2] + [("", (), ())]),
            ("s", pairs[:2] + [0]), ("s", [0, 0, 0]), ("s", "baa"),
        ):
            self.assertIs(check_new(self, is_tree, "ab", sheet, word, value), False, value)
            self.assertIsNone(check_new(self, place_of_tree, "ab", sheet, word, value))
        self.assertTrue(is_tree("ab", sheet, word, right))
        for other in ("", "b", "bb", "baa", "ab", "a" * 200):
            self.assertFalse(is_tree("ab", sheet, other, right))

    def test_changed_trees(self):
        seen = {True: 0, False: 0}
        for rng, letters, sheet, word in some_cases(1811, 120):
            try:
                told = Growing(sheet, word).all_trees(most=400)
            except Endless:
                continue
            if not told or len(told) >= 400:
                continue
            for tree in told[:3]:
                for changed in itertools.islice(changes(tree), 60):
                    right = any(same(changed, other) for other in told)
                    self.assertIs(is_tree(letters, sheet, word, changed), right, changed)
                    place = place_of_tree(letters, sheet, word, changed)
                    self.assertEqual(place, told.index(changed) if right else None)
                    seen[right] += 1
        self.assertGreater(seen[True], 20)
        self.assertGreater(seen[False], 500)

    def test_trees_where_there_are_endlessly_many(self):
        tree = ("s", (1, "a"))
        for _ in range(60):
            self.assertTrue(is_tree("a", LOOSE, "a", tree))
            tree = ("s", (0, [("a", tree), ("", ("s", (2, ())))]))
        self.assertFalse(is_tree("a", LOOSE, "aa", tree))
        self.assertFalse(is_tree("a", CUTS, "a", tree))

    def test_long_words(self):
        sheet = [("s", ("either", [("row", [ONE, ("name", "s")]), ONE, ("row", [("name", "t")] * 5)])),
                 ("t", ("row", [("row", [ONE] * 6)] * 5))]
        row = [("a", "a")] * 6
        tree = ("s", (2, [("a" * 30, ("t", [("a" * 6, row)] * 5))] * 5))
        self.assertTrue(is_tree("a", sheet, "a" * 150, tree))
        self.assertFalse(is_tree("a", sheet, "a" * 151, tree))
        self.assertFalse(is_tree("a", sheet, "a" * 149, tree))
        tree = ("s", (1, "a"))
        for signs in range(1, 100):
            tree = ("s", (0, [("a", "a"), ("a" * signs, tree)]))
        self.assertTrue(is_tree("a", sheet, "a" * 100, tree))


def same(one, other):
    """Whether two values are equal, and of the same kinds throughout."""
    if type(one) is not type(other):
        return False
    if isinstance(one, (list, tuple)):
        return len(one) == len(other) and all(same(a, b) for a, b in zip(one, other))
    return one == other


def changes(value):
    """Values with one thing changed."""
    yield None
    if isinstance(value, str):
        yield value + "a"
        yield value[1:]
        yield (value,)
    elif isinstance(value, bool) or value is None:
        yield 0
    elif isinstance(value, int):
        yield value + 1
        yield value - 1
        yield bool(value)
    elif isinstance(value, tuple):
        yield list(value)
        yield value + (0,)
        yield value[:-1]
        for place, inner in enumerate(value):
            for changed in changes(inner):
                yield value[:place] + (changed,) + value[place + 1:]
    else:
        yield tuple(value)
        yield value[:-1]
        yield value + value[-1:]
        yield value[::-1]
        for place, inner in enumerate(value):
            for changed in changes(inner):
                yield value[:place] + [changed] + value[place + 1:]


class EndlessTest(unittest.TestCase):
    def test_told_papers(self):
        seen = {"paper": 0, "none": 0, "long": 0}
        for rng, letters, sheet, word in some_cases(1821, 250, longest=3):
            wanted = Growing(sheet, word).endless_paper()
            found = check_new(self, endless_paper, letters, sheet, word)
            self.assertEqual(found, wanted)
            self.assertEqual(found is not None, count_trees(letters, sheet, word) is None)
            if found is None:
                seen["none"] += 1
                continue
            seen["paper"] += 1
            seen["long"] += len(found) > 3
            self.assertIs(check_new(self, is_endless_paper, letters, sheet, word, found), True)
            for call in (lambda: trees(letters, sheet, word), lambda: trees(letters, sheet, word, most=0),
                         lambda: tree_at(letters, sheet, word, 0), lambda: tree_at(letters, sheet, word, 10 ** 18),
                         lambda: place_of_tree(letters, sheet, word, None),
                         lambda: place_of_tree(letters, sheet, word, ("s", ()))):
                with self.assertRaises(Ring) as caught:
                    call()
                self.assertEqual(caught.exception.name, found[-1][0])
        self.assertGreater(min(seen.values()), 20)

    def test_example(self):
        self.assertEqual(endless_paper("a", LOOSE, "aa"), [("s", 0, 2), ("s", 0, 0), ("s", 0, 0)])
        self.assertEqual(endless_paper("a", LOOSE, ""), [("s", 0, 0), ("s", 0, 0)])
        self.assertIsNone(endless_paper("a", CUTS, "aa"))
        self.assertIsNone(endless_paper("ab", LOOSE, "b"))
        # A name that leads to itself, but to no word, has no tree at all.
        self.assertIsNone(endless_paper("a", [("s", ("name", "s"))], "a"))
        self.assertEqual(count_trees("a", [("s", ("name", "s"))], "a"), 0)
        # The name of the ring is that of the last spot.
        sheet = [("s", ("row", [ONE, ("name", "t")])), ("t", ("either", [("name", "u"), ONE])), ("u", ("name", "t"))]
        paper = [("s", 0, 2), ("t", 1, 2), ("u", 1, 2), ("t", 1, 2)]
        self.assertEqual(endless_paper("a", sheet, "aa"), paper)
        with self.assertRaises(Ring) as caught:
            trees("a", sheet, "aa")
        self.assertEqual(caught.exception.name, "t")

    def test_other_papers(self):
        sheet = [("s", ("row", [ONE, ("name", "t")])), ("t", ("either", [("name", "u"), ONE])), ("u", ("name", "t"))]
        paper = [("s", 0, 2), ("t", 1, 2), ("u", 1, 2), ("t", 1, 2)]
        for spots, told in (
            (paper, True),
            (paper + paper[2:], True),
            (paper + [("u", 1, 2)], True),
            (paper[:3], False),
            (paper[:1], False),
            ([], False),
            (paper[:1] * 2, False),
            (paper[1:], False),
            ([("s", 0, 1)] + paper[1:], False),
            ([("s", 0, 3)] + paper[1:], False),
            ([("s", 1, 2)] + paper[1:], False),
            ([("t", 0, 2)] + paper[1:], False),
            (paper[:1] + paper[2:] + paper[2:], False),
            ([paper[0], paper[1], paper[1]], False),
            ([paper[0], ("t", 0, 2), ("u", 0, 2), ("t", 0, 2)], False),
            ([paper[0], ("t", 2, 2), ("u", 2, 2), ("t", 2, 2)], False),
            ([paper[0], ("q", 1, 2), ("u", 1, 2), ("q", 1, 2)], False),
            (paper[:3] + [("t", 1, 10 ** 30)] * 2, False),
            (paper[:3] + [("t", -1, 2)] * 2, False),
            (paper[:3] + [("", 1, 2)] * 2, False),
        ):
            self.assertIs(check_new(self, is_endless_paper, "a", sheet, "aa", spots), told, spots)
        self.assertFalse(is_endless_paper("a", sheet, "a", [("s", 0, 1), ("t", 1, 1), ("u", 1, 1), ("t", 1, 1)]))
        # Other spots of the example, in other orders.
        for spots, told in (
            ([("s", 0, 2), ("s", 0, 2)], True),
            ([("s", 0, 2), ("s", 1, 2), ("s", 2, 2), ("s", 2, 2)], True),
            ([("s", 0, 2), ("s", 0, 1), ("s", 1, 2), ("s", 1, 2)], False),
            ([("s", 0, 2), ("s", 1, 2), ("s", 1, 1), ("s", 1, 1)], True),
            ([("s", 0, 2), ("s", 1, 1), ("s", 1, 1)], False),
            ([("s", 0, 2), ("s", 1, 2), ("s", 1, 2), ("s", 1, 1), ("s", 1, 2)], False),
        ):
            self.assertIs(is_endless_paper("a", LOOSE, "aa", spots), told, spots)

    def test_made_up_papers(self):
        seen = {True: 0, False: 0}
        for rng, letters, sheet, word in some_cases(1822, 200, longest=3):
            growing = Growing(sheet, word)
            spots = [(sheet[0][0], 0, len(word))]
            for _ in range(rng.randint(1, 6)):
                behind = sorted(growing.under(spots[-1]))
                if rng.random() < 0.1 or not behind:
                    behind = [(name, b, e) for name, _ in sheet for b in range(len(word) + 1) for e in range(len(word) + 1)]
                spots.append(rng.choice(behind))
                if rng.random() < 0.5 and spots[-1] in spots[:-1]:
                    break
            told = len(spots) > 1 and spots[-1] in spots[:-1] and all(
                q in growing.under(p) for p, q in zip(spots, spots[1:]))
            self.assertIs(is_endless_paper(letters, sheet, word, spots), told)
            seen[told] += 1
            if told:
                self.assertIsNotNone(endless_paper(letters, sheet, word))
        self.assertGreater(min(seen.values()), 40)


class NewTest(unittest.TestCase):
    def test_no_list_stands_twice(self):
        told = trees("a", CUTS, "a" * 7)
        kept = copy.deepcopy(told)
        told[0][1][1].append(0)
        self.assertEqual(told[1:], kept[1:])
        check_new(self, trees, "a", CUTS, "a" * 7, most=50)


if __name__ == "__main__":
    unittest.main()
