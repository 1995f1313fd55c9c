import random
import unittest

from helpers import belongs, check_new, some_rule, some_rules

from hallofwords.errors import BadLetters, BadName, BadNumber, BadRule, BadSize, HallError, TooDeep, UnknownName
from hallofwords.rules import check_rule, depth_of, may_be_empty, parts_of, signs_of, size_of

A = ("one", "a")
NONE = ("none",)
EMPTY = ("empty",)


def nested(depth, rule=A):
    for _ in range(depth):
        rule = ("not", rule)
    return rule


def rows(*sizes):
    """A row of rows with so many rules each: one part more than the sum of the sizes and their number."""
    return ("row", [("row", [A] * size) for size in sizes])


class CheckRuleTest(unittest.TestCase):
    def check(self, error, rule, letters="ab", names=(), **fields):
        with self.assertRaises(HallError) as caught:
            check_rule(letters, rule, names=names)
        self.assertIs(type(caught.exception), error, rule)
        self.assertEqual(vars(caught.exception), fields)

    def right(self, rule, letters="ab", names=()):
        self.assertIsNone(check_rule(letters, rule, names=names))

    def test_every_form(self):
        for rule in (NONE, EMPTY, A, ("one", "ab"), ("row", [A]), ("row", [A] * 6), ("either", [A, NONE]),
                     ("both", [A] * 6), ("not", A), ("times", A, 0, None), ("times", A, 8, 8), ("times", A, 0, 0)):
            self.right(rule)
        self.right(("name", "x1"), names=("x1",))
        self.right(("row", [("name", "x1"), ("name", "abcdefghijkl")]), names=("abcdefghijkl", "x1"))

    def test_words(self):
        for rule in (("nothing",), ("",), ("None",), ("ones", "a"), ("NOT", A), ("times ", A, 0, 1)):
            self.check(BadRule, rule)

    def test_numbers_of_elements(self):
        for rule in (NONE, EMPTY, A, ("row", [A]), ("either", [A]), ("both", [A]), ("not", A), ("times", A, 0, 1),
                     ("name", "x")):
            self.check(BadRule, rule + (0,), names=("x",))
            self.check(BadRule, rule + (None, []), names=("x",))
            if len(rule) > 1:
                self.check(BadRule, rule[:-1], names=("x",))
                self.check(BadRule, rule[:1], names=("x",))
        self.check(BadRule, ("one", 5, "x"))
        self.check(BadRule, ("row", None, None))

    def test_signs(self):
        for signs in ("", "c", "aa", "ba", "abc", "A", "a b", "ab "):
            self.check(BadLetters, ("one", signs))
        self.right(("one", "ba"), letters="ba")
        self.right(("one", "xc"), letters="xmc")
        self.check(BadLetters, ("one", "ab"), letters="ba")

    def test_sizes_of_lists(self):
        for kind in ("row", "either", "both"):
            self.check(BadSize, (kind, []), size=0)
            self.check(BadSize, (kind, [A] * 7), size=7)
            self.check(BadSize, (kind, [A] * 70), size=70)
            self.right((kind, [A]))
            self.right((kind, [A] * 6))

    def test_low(self):
        for low in (-1, 9, True, False, None, "1", "", 1.0, [], (), [1], 10 ** 30):
            self.check(BadNumber, ("times", A, low, 8))
            self.check(BadNumber, ("times", A, low, None))
        for low in range(9):
            self.right(("times", A, low, 8))
            self.right(("times", A, low, None))

    def test_high(self):
        for high in (1, -1, 9, True, False, "2", "-", 2.0, [], (2,), 10 ** 30):
            self.check(BadNumber, ("times", A, 2, high))
        for high in (2, 3, 8, None):
            self.right(("times", A, 2, high))
        self.check(BadNumber, ("times", A, 0, False))
        self.check(BadNumber, ("times", A, 1, True))
        self.check(BadNumber, ("times", A, 8, 7))

    def test_names(self):
        for name in ("", "1", "1a", "A", "aB", "a_b", "a b", "abcdefghijklm", "\u00e4", "a-", "a\n", " a"):
            self.check(BadName, ("name", name), names=(name, "a"))
        for name in ("a", "z9", "a0123456789b", "x"):
            self.check(UnknownName, ("name", name), name=name)
            self.check(UnknownName, ("name", name), names=("other", name + "q"), name=name)
            self.right(("name", name), names=("other", name))

    def test_depth(self):
        self.right(nested(8))
        self.check(TooDeep, nested(9))
        self.check(TooDeep, nested(40))
        self.right(("row", [nested(7), A]))
        self.check(TooDeep, ("row", [A, nested(8)]))

    def test_number_of_parts(self):
        self.assertEqual(size_of(rows(6, 6, 6, 6, 6, 6)), 43)
        self.right(("row", [rows(6, 6, 6, 6, 6), rows(6, 6, 6)] + [A]))  # 1 + 36 + 22 + 1
        self.assertEqual(size_of(("row", [rows(6, 6, 6, 6, 6), rows(6, 6, 6), A])), 60)
        self.check(BadSize, ("row", [rows(6, 6, 6, 6, 6), rows(6, 6, 6), A, A]), size=61)
        self.check(BadSize, ("row", [rows(6, 6, 6, 6, 6, 6)] * 6), size=259)

    def test_many_parts(self):
        deep = A
        for _ in range(5):
            deep = ("row", [deep] * 6)
        self.check(BadSize, deep, size=9331)

    def test_first_error_in_the_order_of_the_parts(self):
        bad_letters, bad_number, bad_rule = ("one", "c"), ("times", A, 9, 9), ("odd",)
        self.check(BadLetters, ("row", [A, bad_letters, bad_number, bad_rule]))
        self.check(BadNumber, ("row", [A, bad_number, bad_letters, bad_rule]))
        self.check(BadRule, ("row", [("not", bad_rule), bad_letters]))
        self.check(BadNumber, ("times", bad_letters, 9, 9))
        self.check(BadSize, ("row", [bad_letters] * 7), size=7)
        self.check(BadLetters, ("row", [bad_letters, ("row", [])]))
        self.check(BadSize, ("row", [("both", []), bad_letters]), size=0)
        self.check(TooDeep, ("row", [nested(8), bad_letters]))
        self.check(BadLetters, ("row", [bad_letters, nested(8)]))
        self.check(UnknownName, ("row", [("name", "x"), ("name", "")]), name="x")
        self.check(BadName, ("row", [("name", ""), ("name", "x")]))

    def test_within_one_part(self):
        self.check(TooDeep, nested(9, ("odd",)))
        self.check(TooDeep, nested(8, ("row", [A])))
        self.check(BadSize, nested(8, ("row", [])), size=0)
        self.check(BadNumber, ("times", A, 9, -1))

    def test_parts_are_counted_behind_the_last_one(self):
        big = ("row", [rows(6, 6, 6, 6, 6, 6), rows(6, 6, 6), ("one", "c")])
        self.check(BadLetters, big)
        self.check(TooDeep, ("row", [rows(6, 6, 6, 6, 6, 6), rows(6, 6, 6), nested(8)]))
        self.check(BadRule, ("row", [rows(6, 6, 6, 6, 6, 6), rows(6, 6, 6), ("row", [A, ("not",)])]))

    def test_nothing_is_modified(self):
        check_new(self, check_rule, "ab", ("row", [A, ("either", [A, EMPTY])]))


class PartsTest(unittest.TestCase):
    def test_parts(self):
        inner = ("either", [A, NONE])
        times = ("times", ("not", inner), 0, 2)
        rule = ("row", [times, EMPTY, ("name", "x")])
        self.assertEqual(parts_of(rule), [rule, times, ("not", inner), inner, A, NONE, EMPTY, ("name", "x")])
        self.assertEqual((size_of(rule), depth_of(rule)), (8, 4))

    def test_single_parts(self):
        for rule in (NONE, EMPTY, A, ("name", "x")):
            self.assertEqual(parts_of(rule), [rule])
            self.assertEqual((size_of(rule), depth_of(rule)), (1, 0))

    def test_sizes_and_depths_of_made_up_rules(self):
        def size(rule):
            return 1 + sum(size(part) for part in inner(rule))

        def depth(rule):
            return max([1 + depth(part) for part in inner(rule)], default=0)

        def inner(rule):
            return rule[1] if rule[0] in ("row", "either", "both") else [rule[1]] if rule[0] in ("not", "times") else []

        for _, rule in some_rules(3, 200):
            self.assertEqual((size_of(rule), depth_of(rule), len(parts_of(rule))), (size(rule), depth(rule), size(rule)))

    def test_beyond_the_limits(self):
        self.assertEqual((size_of(nested(30)), depth_of(nested(30))), (31, 30))
        self.assertEqual(size_of(("row", [A] * 70)), 71)

    def test_answers_are_new(self):
        rule = ("row", [("either", [A, ("both", [A])]), ("times", ("row", [A]), 0, 1), ("not", ("row", [A]))])
        check_new(self, parts_of, rule)
        found = parts_of(rule)
        found[0][1].clear()
        found[1][1].append(NONE)
        self.assertEqual(parts_of(rule)[1], ("either", [A, ("both", [A])]))
        self.assertEqual(found[3], ("both", [A]))


class SignsTest(unittest.TestCase):
    def test_signs(self):
        self.assertEqual(signs_of("ab", NONE), "")
        self.assertEqual(signs_of("ba", ("row", [A, ("not", ("one", "b"))])), "ba")
        self.assertEqual(signs_of("abc", ("times", ("row", [("one", "c"), A, ("one", "ac")]), 0, 0)), "ac")
        self.assertEqual(signs_of("abc", ("name", "b")), "")


class MayBeEmptyTest(unittest.TestCase):
    def test_forms(self):
        for rule, answer in (
            (NONE, False),
            (EMPTY, True),
            (A, False),
            (("row", [EMPTY, EMPTY]), True),
            (("row", [EMPTY, A]), False),
            (("either", [A, EMPTY]), True),
            (("either", [A, NONE]), False),
            (("both", [EMPTY, ("not", A)]), True),
            (("both", [EMPTY, A]), False),
            (("not", A), True),
            (("not", EMPTY), False),
            (("times", A, 0, None), True),
            (("times", A, 0, 0), True),
            (("times", NONE, 0, 3), True),
            (("times", A, 1, None), False),
            (("times", EMPTY, 8, 8), True),
        ):
            self.assertIs(may_be_empty(rule), answer, rule)

    def test_made_up_rules(self):
        rng = random.Random(8)
        for _ in range(300):
            rule = some_rule(rng, "ab", 4)
            self.assertIs(may_be_empty(rule), belongs(rule, ""), rule)


if __name__ == "__main__":
    unittest.main()
