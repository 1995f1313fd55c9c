import itertools
import random
import unittest

from helpers import all_words, check_new, some_machine, some_machines, taken

from hallofwords.errors import BadSize
from hallofwords.learning import are_unlike, clash_tree, fits, is_clash_tree, least_fit, unlike_words
from hallofwords.machines import least

# Letters and the greatest `most` that least_fit takes with them, small enough to go through all tables.
SMALL = [("a", 4), ("ab", 3), ("ba", 2), ("abc", 2), ("abcd", 2)]


def some_told(rng, letters, longest=4):
    """Two lists of told words: those of some machine, or any; often with words twice, now and then in both."""
    words = [rng.choice(all_words(letters, longest)) for _ in range(rng.choice([0, 1, 3, 6, 9, 12, 15, 18]))]
    if rng.random() < 0.8:
        machines = [some_machine(rng, letters, 6) for _ in range(rng.choice([1, 3, 6]))]
        machine = max(machines, key=lambda made: len(least(letters, made)[0]))
        yes = [word for word in words if taken(letters, machine, word)]
        no = [word for word in words if not taken(letters, machine, word)]
    else:
        cut = rng.randint(0, len(words))
        yes, no = words[:cut], words[cut:]
    return yes + yes[:rng.randint(0, 1)], no[:rng.randint(0, 1)] + no


def slow_fit(letters, yes, no, most):
    """The first table with the fewest states, of all tables."""
    for many in range(1, most + 1):
        rows = list(itertools.product(range(many), repeat=len(letters)))
        for table in itertools.product(rows, repeat=many):
            def state_of(word):
                state = 0
                for sign in word:
                    state = table[state][letters.index(sign)]
                return state
            ends = {state_of(word) for word in yes}
            if not ends & {state_of(word) for word in no}:
                return [list(row) for row in table], [state in ends for state in range(many)]
    return None


def in_their_order(letters, words):
    return sorted(set(words), key=lambda word: (len(word), [letters.index(sign) for sign in word]))


def slow_tree(letters, yes, no, most, table, known):
    """The told clash tree, straight from point 94, in the table {(state, sign): target}; None if there is none."""
    def led(word):
        state = 0
        for sign in word:
            if (state, sign) not in table:
                return None, (state, sign)
            state = table[state, sign]
        return state, None

    for one in in_their_order(letters, yes):
        for other in in_their_order(letters, no):
            if led(one)[1] is None and led(one) == led(other):
                return ("clash", one, other)
    for word in in_their_order(letters, yes + no):
        if led(word)[1] is not None:
            state, sign = led(word)[1]
            trees = []
            for target in range(known + 1 if known < most else known):
                tree = slow_tree(letters, yes, no, most, {**table, (state, sign): target}, max(known, target + 1))
                if tree is None:
                    return None
                trees.append(tree)
            return ("split", state, sign, trees)
    return None


class FitTest(unittest.TestCase):
    def test_fits(self):
        machine = ([[1], [0]], [True, False])
        for yes, no, told in (
            ([], [], True),
            (["", "aa", "aa", "aaaa"], ["a", "a", "aaa"], True),
            ([""], ["a", "aa"], False),
            (["a"], [], False),
            ([], [""], False),
            (["a"], ["a"], False),
            ([""], [""], False),
            (["a" * 200], ["a" * 199], True),
            (["a" * 199], [], False),
        ):
            self.assertIs(check_new(self, fits, "a", machine, yes, no), told)

    def test_made_up_machines(self):
        for letters, machine in some_machines(911, 60):
            words = all_words(letters, 3)
            yes = [word for word in words if taken(letters, machine, word)]
            no = [word for word in words if not taken(letters, machine, word)]
            self.assertTrue(fits(letters, machine, yes[::-1] * 2, no))
            for word in words:
                self.assertFalse(fits(letters, machine, yes + [word], no + [word]))
            if yes and no:
                self.assertFalse(fits(letters, machine, yes + no[-1:], no))
                self.assertFalse(fits(letters, machine, yes, no + yes[-1:]))

    def test_least_fit_against_all_tables(self):
        rng = random.Random(912)
        seen = {}
        for _ in range(600):
            letters, most = rng.choice(SMALL)
            most = rng.randint(1, most)
            yes, no = some_told(rng, letters, longest=5)
            found = check_new(self, least_fit, letters, yes, no, most)
            self.assertEqual(found, slow_fit(letters, yes, no, most))
            seen[found and len(found[0])] = seen.get(found and len(found[0]), 0) + 1
            if found is not None:
                self.assertTrue(fits(letters, found, yes, no))
                self.assertEqual(least(letters, found), found)
            rng.shuffle(yes)
            self.assertEqual(least_fit(letters, yes + yes, no[::-1], most), found)
        self.assertGreater(min(seen[many] for many in (None, 1, 2, 3)), 12)

    def test_greater_tables(self):
        for letters, many in (("ab", 4), ("abc", 3), ("a", 4)):
            rng = random.Random(913)
            for _ in range(12):
                machine = least(letters, some_machine(rng, letters, many))
                words = all_words(letters, 2 * len(machine[0]))
                yes = [word for word in words if taken(letters, machine, word)]
                no = [word for word in words if not taken(letters, machine, word)]
                self.assertEqual(least_fit(letters, yes[-75:], no[-75:], many) is None, False)
                if len(words) <= 150:
                    self.assertEqual(least_fit(letters, yes, no, many), machine)
                    if len(machine[0]) > 1:
                        self.assertIsNone(least_fit(letters, yes, no, len(machine[0]) - 1))

    def test_examples(self):
        self.assertEqual(least_fit("ab", [], [], 1), ([[0, 0]], [False]))
        self.assertEqual(least_fit("ab", [], ["", "ab"], 4), ([[0, 0]], [False]))
        self.assertEqual(least_fit("ab", ["b", "b"], [], 4), ([[0, 0]], [True]))
        # Three states are told apart; what is not told goes to state 0, and is no end.
        self.assertEqual(least_fit("a", ["aa"], ["", "a"], 3), ([[1], [2], [0]], [False, False, True]))
        self.assertIsNone(least_fit("a", ["aa"], ["", "a"], 2))
        self.assertIsNone(least_fit("ab", ["a", "b"], ["ba", "a"], 4))
        self.assertIsNone(least_fit("a", [""], [""], 4))

    def test_sizes(self):
        for letters, most in (("abc", 3), ("ab", 4), ("abcd", 2), ("abcdef", 1), ("a", 4)):
            self.assertEqual(least_fit(letters, ["a"], ["a"], most), None)
            self.assertIsInstance(clash_tree(letters, ["a"], ["a"], most), tuple)
        for letters, most in (("abcde", 2), ("abc", 4), ("abcd", 3), ("abcdef", 2), ("abcdef", 4)):
            for call in (least_fit, clash_tree):
                for yes in ([], ["a"]):
                    with self.assertRaises(BadSize) as caught:
                        call(letters, yes, yes, most)
                    self.assertEqual(caught.exception.size, len(letters) * most)


class ClashTreeTest(unittest.TestCase):
    def test_against_the_document(self):
        rng = random.Random(921)
        trees = 0
        for _ in range(300):
            letters, most = rng.choice(SMALL)
            most = rng.randint(1, most)
            yes, no = some_told(rng, letters)
            tree = check_new(self, clash_tree, letters, yes, no, most)
            self.assertEqual(tree, slow_tree(letters, yes, no, most, {}, 1))
            self.assertEqual(tree is None, least_fit(letters, yes, no, most) is not None)
            if tree is not None:
                trees += 1
                self.assertIs(check_new(self, is_clash_tree, letters, yes, no, most, tree), True)
            self.assertEqual(clash_tree(letters, yes[::-1], no + no, most), tree)
        self.assertGreater(trees, 60)

    def test_part_for_part(self):
        self.assertEqual(clash_tree("ab", [""], ["", "a"], 3), ("clash", "", ""))
        self.assertEqual(
            clash_tree("ba", ["aa", "b"], ["", "ab", "a"], 1),
            ("split", 0, "b", [("clash", "b", "")]),
        )
        self.assertEqual(
            clash_tree("a", ["aa"], ["", "a"], 2),
            ("split", 0, "a", [("clash", "aa", ""),
                               ("split", 1, "a", [("clash", "aa", ""), ("clash", "aa", "a")])]),
        )
        self.assertEqual(
            clash_tree("a", ["a"], ["a"], 2), ("split", 0, "a", [("clash", "a", "a"), ("clash", "a", "a")])
        )
        self.assertIsNone(clash_tree("ab", [], [], 1))
        self.assertIsNone(clash_tree("ab", ["a"], ["b"], 2))

    def test_greater_trees(self):
        for letters, most in (("ab", 4), ("abc", 3)):
            rng = random.Random(922)
            for _ in range(3):
                words = rng.sample(all_words(letters, 5), 60)
                yes, no = words[:30], words[30:]
                tree = clash_tree(letters, yes, no, most)
                self.assertIsNone(least_fit(letters, yes, no, most))
                self.assertTrue(is_clash_tree(letters, yes, no, most, tree))
                self.assertFalse(is_clash_tree(letters, yes, no, most - 1, tree))
                self.assertFalse(is_clash_tree(letters, yes, [], most, tree))
                self.assertFalse(is_clash_tree(letters, [], no, most, tree))


class JudgeTest(unittest.TestCase):
    YES, NO = ["aa", "ab"], ["", "a", "aab"]

    def judged(self, tree, letters="ab", yes=None, no=None, most=2):
        yes = self.YES if yes is None else yes
        no = self.NO if no is None else no
        return check_new(self, is_clash_tree, letters, yes, no, most, tree)

    def test_splits_at_other_entries(self):
        clash = ("clash", "aa", "")
        # In the told tree no b is ever gone by; it may be split, and what is behind it is shown twice.
        told = ("split", 0, "a", [clash, ("split", 1, "a", [clash, ("clash", "aa", "a")])])
        self.assertEqual(clash_tree("ab", self.YES, self.NO, 2), told)
        self.assertTrue(self.judged(told))
        behind = ("split", 1, "a", [clash, ("clash", "aa", "a")])
        self.assertTrue(self.judged(("split", 0, "b", [told, ("split", 0, "a", [clash, behind])])))
        # There are three targets where a third state may be.
        self.assertFalse(self.judged(("split", 0, "b", [told, told]), most=3))
        self.assertFalse(self.judged(("split", 0, "b", [told])))
        self.assertFalse(self.judged(("split", 0, "b", [told, told, told])))
        self.assertTrue(self.judged(("split", 0, "b", [told, told])))

    def test_wrong_trees(self):
        clash = ("clash", "aa", "")
        inner = [clash, ("clash", "aa", "a")]
        self.assertTrue(self.judged(("split", 0, "a", [clash, ("split", 1, "a", inner)])))
        for tree in (
            clash,
            ("split", 0, "a", []),
            ("split", 0, "a", [clash]),
            ("split", 0, "a", [clash, ("split", 1, "a", inner), clash]),
            ("split", 0, "a", [("split", 1, "a", inner), clash]),
            ("split", 0, "a", [clash, ("split", 1, "a", inner[::-1])]),
            ("split", 0, "a", [clash, ("split", 1, "a", inner[:1])]),
            ("split", 0, "a", [clash, ("split", 0, "a", inner)]),
            ("split", 0, "a", [clash, ("split", 1, "b", inner)]),
            ("split", 0, "b", [clash, ("split", 1, "a", inner)]),
            ("split", 1, "a", [clash, ("split", 1, "a", inner)]),
            ("split", -1, "a", [clash, ("split", 1, "a", inner)]),
            ("split", 10 ** 20, "a", [clash, ("split", 1, "a", inner)]),
            ("split", 0, "a", [clash, ("split", 2, "a", inner)]),
            ("split", 0, "a", [clash, ("split", -1, "a", inner)]),
            ("split", 0, "c", [clash, ("split", 1, "a", inner)]),
            ("split", 0, "a", [clash, ("split", 1, "c", inner)]),
            # Words that are not told, that are told otherwise, and that lead to different states or to none.
            ("split", 0, "a", [("clash", "a", ""), ("split", 1, "a", inner)]),
            ("split", 0, "a", [("clash", "", "aa"), ("split", 1, "a", inner)]),
            ("split", 0, "a", [("clash", "aaaa", ""), ("split", 1, "a", inner)]),
            ("split", 0, "a", [("clash", "aa", "aaaa"), ("split", 1, "a", inner)]),
            ("split", 0, "a", [("clash", "ab", ""), ("split", 1, "a", inner)]),
            ("split", 0, "a", [("clash", "aa", "aab"), ("split", 1, "a", inner)]),
            ("split", 0, "a", [clash, ("split", 1, "a", [("clash", "aa", "a"), ("clash", "aa", "a")])]),
            ("split", 0, "a", [clash, ("split", 1, "a", [clash, clash])]),
            ("split", 0, "a", [clash, ("clash", "aa", "a")]),
        ):
            self.assertIs(self.judged(tree), False, tree)

    def test_open_words_do_not_clash(self):
        # Both words meet the same open entry, and so lead to no state.
        self.assertFalse(self.judged(("clash", "a", "a"), yes=["a"], no=["a"]))
        self.assertTrue(self.judged(("clash", "", ""), yes=[""], no=[""]))

    def test_many_letters(self):
        # With six letters and four states there are 24 entries.
        clash = ("clash", "f", "")
        self.assertTrue(is_clash_tree("abcdef", ["f"], [""], 1, ("split", 0, "f", [clash])))
        tree = ("split", 0, "f", [clash, ("clash", "ff", "f"), clash, clash])
        self.assertFalse(is_clash_tree("abcdef", ["f", "ff"], ["", "f"], 4, tree))
        tree = ("split", 0, "f", [("clash", "f", "f"), ("clash", "f", "f")])
        self.assertTrue(is_clash_tree("abcdef", ["f"], ["f"], 4, tree))
        self.assertFalse(is_clash_tree("abcdef", ["f"], ["f"], 1, tree))

        def all_split(places, known):
            if not places:
                return ("clash", "", "")
            sign = places[0]
            return ("split", 0, sign, [all_split(places[1:], known) for _ in range(known)])
        self.assertTrue(is_clash_tree("abcdef", [""], [""], 1, all_split("fedcba", 1)))
        self.assertFalse(is_clash_tree("abcdef", [""], [""], 1, all_split("fedcbaf", 1)))

    def test_one_part_changed(self):
        rng = random.Random(931)
        letters, most = "ab", 2
        for _ in range(40):
            yes, no = some_told(rng, letters)
            tree = clash_tree(letters, yes, no, most)
            if tree is None or tree[0] == "clash":
                continue
            for changed in changes(tree):
                self.assertEqual(
                    is_clash_tree(letters, yes, no, most, changed), slow_judge(yes, no, most, changed, {}, 1), changed
                )


def changes(tree):
    """Trees with one thing changed."""
    yield ("clash", "", "")
    if tree[0] == "clash":
        _, one, other = tree
        yield ("clash", other, one)
        yield ("clash", one + "a", other)
        yield ("clash", one, other + "b")
        return
    _, state, sign, trees = tree
    yield ("split", 1 - state, sign, trees)
    yield ("split", state, "b" if sign == "a" else "a", trees)
    yield ("split", state, sign, trees[::-1])
    yield ("split", state, sign, trees[:-1])
    yield ("split", state, sign, trees + trees[:1])
    for place, inner in enumerate(trees):
        for changed in changes(inner):
            yield ("split", state, sign, trees[:place] + [changed] + trees[place + 1:])


def slow_judge(yes, no, most, tree, table, known):
    def led(word):
        state = 0
        for sign in word:
            state = table.get((state, sign))
            if state is None:
                return None
        return state

    if tree[0] == "clash":
        return tree[1] in yes and tree[2] in no and led(tree[1]) is not None and led(tree[1]) == led(tree[2])
    _, state, sign, trees = tree
    targets = list(range(known)) + ([known] if known < most else [])
    if state not in range(known) or (state, sign) in table or len(trees) != len(targets):
        return False
    return all(slow_judge(yes, no, most, inner, {**table, (state, sign): target}, max(known, target + 1))
               for target, inner in zip(targets, trees))


def slow_apart(yes, no, u, v):
    ends = {word[len(u):] for word in yes + no if word.startswith(u)}
    return any((u + z in yes and v + z in no) or (v + z in yes and u + z in no) for z in ends)


class UnlikeTest(unittest.TestCase):
    def test_unlike_words_against_the_document(self):
        rng = random.Random(941)
        lengths = {}
        for _ in range(300):
            letters = rng.choice(["a", "ab", "ba", "abc"])
            yes, no = some_told(rng, letters)
            begun = in_their_order(letters, [""] + [w[:k] for w in yes + no for k in range(len(w) + 1)])
            slow = []
            for word in begun:
                if all(slow_apart(yes, no, word, ahead) for ahead in slow):
                    slow.append(word)
            found = check_new(self, unlike_words, letters, yes, no)
            self.assertEqual(found, slow)
            self.assertIs(are_unlike(letters, yes, no, found), True)
            lengths[len(found)] = lengths.get(len(found), 0) + 1
            if len(found) <= 3 and len(letters) * len(found) <= 9 and len(found) > 1:
                self.assertIsNone(least_fit(letters, yes, no, len(found) - 1))
        self.assertGreater(min(lengths[many] for many in (1, 2, 3)), 20)

    def test_are_unlike_against_the_document(self):
        rng = random.Random(942)
        seen = []
        for _ in range(400):
            letters = rng.choice(["a", "ab"])
            yes, no = some_told(rng, letters)
            words = rng.sample(unlike_words(letters, yes, no), 1) + unlike_words(letters, yes, no)[:rng.randint(0, 3)]
            words = words[rng.randint(0, 1):] + rng.sample(all_words(letters, 3), rng.choice([0, 0, 0, 1]))
            told = all(slow_apart(yes, no, u, v) for u, v in itertools.combinations(words, 2))
            self.assertIs(check_new(self, are_unlike, letters, yes, no, words), told)
            if len(words) > 1:
                seen.append(told)
        self.assertGreater(min(seen.count(True), seen.count(False)), 30)

    def test_no_word_and_one_word(self):
        self.assertEqual(unlike_words("ab", [], []), [""])
        self.assertEqual(unlike_words("ab", ["a"], []), [""])
        self.assertTrue(are_unlike("ab", [], [], []))
        self.assertTrue(are_unlike("ab", [], [], ["b"]))
        self.assertTrue(are_unlike("ab", ["a"], [""], ["bbbb"]))
        self.assertFalse(are_unlike("ab", ["a"], [""], ["", "b"]))

    def test_told_apart_from_itself(self):
        # Behind "a" the sign b is told both ways, and so is the word "ab" itself; the word "b" is not.
        yes, no = ["ab", "b"], ["ab"]
        for word in ("a", "ab", ""):
            self.assertTrue(are_unlike("ab", yes, no, [word, word]))
        self.assertFalse(are_unlike("ab", yes, no, ["b", "b"]))
        self.assertFalse(are_unlike("ab", ["a"], [""], ["", "a", "a"]))
        self.assertTrue(are_unlike("ab", ["a"], [""], ["", "a"]))

    def test_longest_lists(self):
        # A word of n signs alone, told against all shorter ones: no two beginnings are alike.
        yes, no = ["a" * 16], ["a" * length for length in range(16)]
        self.assertEqual(unlike_words("a", yes, no), ["a" * length for length in range(17)])
        words = all_words("ab", 6)[-64:] + all_words("ab", 6)[-64:]
        self.assertFalse(are_unlike("ab", words[:64], [], words))


if __name__ == "__main__":
    unittest.main()
