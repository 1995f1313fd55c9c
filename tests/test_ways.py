import random
import unittest

from helpers import all_ways, all_words, belongs, check_new, some_rule, some_rules

from hallofwords.errors import BadSize
from hallofwords.rules import size_of
from hallofwords.ways import count_ways, is_of, is_way, place_of_way, way_at, ways, weight_of

NONE, EMPTY = ("none",), ("empty",)
A, B, ANY = ("one", "a"), ("one", "b"), ("one", "ab")
MOST = {"a": 6, "ab": 4, "ba": 4, "abc": 3}
EXAMPLE = ("times", ("either", [A, ("row", [A, A])]), 0, None)


class WeightTest(unittest.TestCase):
    def test_weights(self):
        for rule, weight in (
            (NONE, 1),
            (EMPTY, 1),
            (A, 1),
            (("not", ("row", [A] * 6)), 1),
            (("row", [A, A, A]), 3),
            (("either", [A, ("both", [A, B])]), 3),
            (("times", A, 0, 0), 1),
            (("times", ("row", [A, B]), 0, 0), 2),
            (("times", A, 0, 1), 1),
            (("times", ("row", [A, B]), 3, 8), 16),
            (("times", A, 0, None), 1),
            (("times", ("row", [A, B]), 3, None), 8),
            (("times", ("times", ("times", A, 8, 8), 8, None), 2, 3), 216),
            (("not", ("times", A, 8, 8)), 1),
        ):
            self.assertEqual(weight_of(rule), weight, rule)

    def test_great_weights(self):
        rule = A
        for _ in range(8):
            rule = ("times", rule, 8, None)
        self.assertEqual(weight_of(rule), 9 ** 8)


class IsOfTest(unittest.TestCase):
    def test_made_up_rules(self):
        for letters, rule in some_rules(91, 300):
            for word in all_words(letters, MOST[letters]):
                self.assertIs(is_of(letters, rule, word), belongs(rule, word), (rule, word))

    def test_thirty_signs(self):
        self.assertIs(is_of("ab", ("times", ANY, 0, None), "ab" * 15), True)
        self.assertIs(is_of("ab", ("times", ("row", [A, B]), 8, None), "ab" * 15), True)
        self.assertIs(is_of("ab", ("times", ("row", [A, B]), 8, None), "ab" * 14 + "ba"), False)
        self.assertIs(is_of("ab", ("row", [("times", ANY, 0, None), A, ("times", ANY, 8, 8)]), "b" * 21 + "a" + "b" * 8),
                      True)
        self.assertIs(is_of("ab", ("times", ("times", ANY, 4, 5), 6, 7), "a" * 30), True)
        self.assertIs(is_of("ab", ("times", ("times", ANY, 4, 5), 8, 8), "a" * 30), False)

    def test_no_error_whatever_the_weight_is(self):
        for weight in (60, 61):
            rule = ("either", [("row", [("times", A, 0, 8)] * 6), ("row", [A] * 6), ("row", [A] * 6)])
            if weight == 61:
                rule = ("either", [rule, A])
            self.assertEqual(weight_of(rule), weight)
            self.assertIs(is_of("ab", rule, "a" * 30), True)
            self.assertIs(is_of("ab", rule, "a" * 29 + "b"), False)
        rule = ("times", ("either", [("times", ("either", [A, EMPTY]), 8, None), B]), 8, 8)
        self.assertIs(is_of("ab", rule, "aaabbaabaaaaaaaabb"), True)
        self.assertIs(is_of("ab", rule, "aaabbaabaaaaaaaabba"), False)
        self.assertIs(is_of("ab", rule, "b" * 9), False)

    def test_no_error_whatever_the_machine_is(self):
        rule = ("row", [("times", ANY, 0, None), A, ("times", ANY, 8, 8), ("times", ANY, 8, 8)])
        self.assertIs(is_of("ab", rule, "b" * 13 + "a" + "b" * 16), True)
        self.assertIs(is_of("ab", rule, "a" * 13 + "b" + "a" * 15), True)
        self.assertIs(is_of("ab", rule, "a" * 13 + "b" + "a" * 16), False)
        self.assertIs(is_of("ab", ("not", rule), "b" * 30), True)


class IsWayTest(unittest.TestCase):
    def right(self, rule, word, way):
        self.assertIs(is_way("ab", rule, word, way), True, (rule, word, way))

    def wrong(self, rule, word, *values):
        for value in values:
            self.assertIs(is_way("ab", rule, word, value), False, (rule, word, value))

    def test_none_and_empty(self):
        self.wrong(NONE, "", (), [], None, "", 0, False)
        self.wrong(NONE, "a", "a", ())
        self.right(EMPTY, "", ())
        self.wrong(EMPTY, "", [], "", None, 0, False, ((),), ("",), ([],))
        self.wrong(EMPTY, "a", (), "a")

    def test_one(self):
        self.right(A, "a", "a")
        self.right(ANY, "b", "b")
        self.wrong(A, "a", "b", "", "aa", ("a",), ["a"], None, 0, ())
        self.wrong(A, "b", "b", "a", ())
        self.wrong(ANY, "ab", "ab", "a", "b")
        self.wrong(ANY, "", "", ())

    def test_row(self):
        rule = ("row", [A, EMPTY, ("times", B, 0, None)])
        self.right(rule, "abb", [("a", "a"), ("", ()), ("bb", [("b", "b"), ("b", "b")])])
        self.right(rule, "a", [("a", "a"), ("", ()), ("", [])])
        self.wrong(rule, "a", (("a", "a"), ("", ()), ("", [])), [["a", "a"], ("", ()), ("", [])],
                   [("a", "a"), ("", ()), ("", ())], [("a", "a"), ("", ())], [("a", "a"), ("", ()), ("", []), ("", ())],
                   [("a", "a"), (), ("", [])], [("a", "a", "a"), ("", ()), ("", [])], [("a",), ("", ()), ("", [])],
                   [("", "a"), ("a", ()), ("", [])], [("a", "a"), (None, ()), ("", [])], [("a", "a"), ("", ()), None],
                   [("a", "a"), (0, ()), ("", [])], [(("a",), "a"), ("", ()), ("", [])], [], "a", None, 1, True, {})
        self.wrong(rule, "abb", [("a", "a"), ("", ()), ("b", [("b", "b")])], [("a", "a"), ("", ()), ("bbb", [("b", "b")] * 3)],
                   [("a", "a"), ("", ()), ("bb", [("bb", "b")])], [("a", "a"), ("b", ()), ("b", [("b", "b")])],
                   [("b", "b"), ("", ()), ("ab", [("a", "a"), ("b", "b")])])
        self.wrong(rule, "ab", [("a", "a"), ("", ()), ("bb", [("b", "b"), ("b", "b")])])

    def test_either(self):
        rule = ("either", [B, A, ANY])
        self.right(rule, "a", (1, "a"))
        self.right(rule, "a", (2, "a"))
        self.wrong(rule, "a", (0, "a"), (True, "a"), (False, "a"), (3, "a"), (-1, "a"), (-2, "a"), ("1", "a"), (None, "a"),
                   [1, "a"], (1, "a", "a"), (1,), (), "a", 1, (1, ("a",)), (1, "b"), (1, (1, "a")), ((1, "a"), "a"),
                   (10 ** 30, "a"))
        self.wrong(("either", [A]), "a", (False, "a"), (1, "a"))
        self.right(("either", [A]), "a", (0, "a"))
        self.wrong(("either", [B, A]), "a", (True, "a"))

    def test_both(self):
        rule = ("both", [A, ANY, ("not", B)])
        self.right(rule, "a", ["a", "a", ()])
        self.wrong(rule, "a", ("a", "a", ()), ["a", "a"], ["a", "a", (), ()], ["a", (), "a"], ["a", "a", []], [], None,
                   ["a", "a", None], "aa")
        self.wrong(rule, "b", ["b", "b", ()])
        self.right(("both", [A]), "a", ["a"])
        self.wrong(("both", [A]), "a", "a")

    def test_not(self):
        self.right(("not", A), "b", ())
        self.right(("not", A), "", ())
        self.right(("not", ("not", A)), "a", ())
        self.wrong(("not", A), "a", (), "a")
        self.wrong(("not", A), "b", [], "b", None, ((),), True)
        self.right(("row", [A, ("not", A), ("not", EMPTY)]), "aba", [("a", "a"), ("", ()), ("ba", ())])
        self.wrong(("row", [A, ("not", A), ("not", EMPTY)]), "aba", [("a", "a"), ("ba", ()), ("", ())])
        self.right(("times", ("not", ("row", [B, B])), 0, None), "b" * 30, [("b", ())] * 30)
        self.wrong(("times", ("not", ("row", [B, B])), 0, None), "b" * 30, [("b", ())] * 28 + [("bb", ())])

    def test_times(self):
        rule = ("times", ("either", [A, EMPTY]), 2, 3)
        a, e = ("a", (0, "a")), ("", (1, ()))
        self.right(rule, "aa", [a, a])
        self.right(rule, "aaa", [a, a, a])
        self.right(rule, "aa", [e, a, a])
        self.right(rule, "aa", [a, e, a])
        self.right(rule, "", [e, e])
        self.wrong(rule, "", [e, e, e], [e], [], (e, e))
        self.wrong(rule, "aa", [a, a, e], [a], [a, a, a], [a, e], [e, e, a, a], (a, a), [list(a), a], [e, e, ("aa", (0, "a"))])
        self.wrong(rule, "aaaa", [a, a, a, a])
        self.right(("times", A, 0, 0), "", [])
        self.wrong(("times", A, 0, 0), "", (), None, [("", ())])
        self.wrong(("times", A, 0, 0), "a", [("a", "a")], [])
        self.right(("times", A, 0, None), "", [])
        self.wrong(("times", EMPTY, 0, None), "", [("", ())])
        self.right(("times", EMPTY, 1, None), "", [("", ())])

    def test_ways_of_other_words_and_rules(self):
        words = all_words("ab", 3)
        rng = random.Random(92)
        for _ in range(60):
            rule, other = some_rule(rng, "ab", 2), some_rule(rng, "ab", 2)
            told = {word: all_ways(rule, word) for word in words}
            for word in words:
                for way in told[word][:4]:
                    self.right(rule, word, way)
                    for another in words:
                        self.assertIs(is_way("ab", rule, another, way), way in told[another])
                    self.assertIs(is_way("ab", other, word, way), way in all_ways(other, word))

    def test_changed_values(self):
        rng = random.Random(93)
        odd = [None, True, False, 0, 1, 2, -1, "", "a", "b", "ab", (), [], ((),), [[]], [()], ("a", "a"), (0, "a")]

        def changed(value):
            if isinstance(value, (list, tuple)) and value and rng.random() < 0.75:
                parts = list(value)
                place = rng.randrange(len(parts))
                chance = rng.random()
                if chance < 0.1:
                    del parts[place]
                elif chance < 0.2:
                    parts.insert(place, parts[place])
                else:
                    parts[place] = changed(parts[place])
                return parts if isinstance(value, list) else tuple(parts)
            if isinstance(value, (list, tuple)) and rng.random() < 0.5:
                return tuple(value) if isinstance(value, list) else list(value)
            return rng.choice(odd)

        def same(one, other):
            """Equality that tells True from 1."""
            return repr(one) == repr(other)

        for letters, rule in some_rules(94, 150, letters=("ab",)):
            for word in all_words("ab", 3):
                told = all_ways(rule, word)
                for way in told[:3]:
                    for _ in range(4):
                        value = changed(way)
                        self.assertIs(is_way("ab", rule, word, value), any(same(value, one) for one in told))

    def test_2000_signs(self):
        word = "ab" * 1000
        pairs = [("ab", [("a", "a"), ("b", "b")])] * 1000
        rule = ("times", ("row", [A, B]), 0, None)
        self.right(rule, word, pairs)
        self.wrong(rule, word, pairs[1:], pairs + pairs[:1], pairs[:-1] + [("ba", [("b", "b"), ("a", "a")])])
        self.right(("both", [("times", ANY, 8, None), rule]), word, [[(sign, sign) for sign in word], pairs])

    def test_values_that_stand_deep(self):
        value = ()
        for k in range(5000):
            value = (0, value) if k % 2 else [("", value)]
        for rule in (NONE, EMPTY, A, EXAMPLE, ("either", [("either", [EMPTY])]), ("not", A), ("both", [A])):
            self.wrong(rule, "", value)
            self.wrong(rule, "a", value, (0, value), [("a", value)], [value])

    def test_no_error_whatever_the_weight_is(self):
        rule = EMPTY
        way = ()
        for _ in range(4):
            rule = ("times", rule, 8, 8)
            way = [("", way)] * 8
        self.right(rule, "", way)
        self.assertEqual(weight_of(rule), 4096)
        self.wrong(rule, "", way[:7], way + way[:1], way[:7] + [("", [])])


class WaysTest(unittest.TestCase):
    def test_example_of_point_29(self):
        first = [("aa", (1, [("a", "a"), ("a", "a")]))]
        second = [("a", (0, "a")), ("a", (0, "a"))]
        self.assertEqual(ways("ab", EXAMPLE, "aa"), [first, second])
        self.assertEqual(count_ways("ab", EXAMPLE, "aa"), 2)
        self.assertEqual((way_at("ab", EXAMPLE, "aa", 0), way_at("ab", EXAMPLE, "aa", 1)), (first, second))
        self.assertEqual([place_of_way("ab", EXAMPLE, "aa", way) for way in (first, second)], [0, 1])
        self.assertIsNone(way_at("ab", EXAMPLE, "aa", 2))

    def test_every_form(self):
        maybe = ("either", [A, EMPTY])
        for rule, word, told in (
            (NONE, "", []),
            (EMPTY, "", [()]),
            (EMPTY, "a", []),
            (ANY, "b", ["b"]),
            (A, "b", []),
            (("row", [maybe, maybe]), "a", [[("a", (0, "a")), ("", (1, ()))], [("", (1, ())), ("a", (0, "a"))]]),
            (("row", [A]), "a", [[("a", "a")]]),
            (("either", [A, B, ANY]), "a", [(0, "a"), (2, "a")]),
            (("both", [("either", [A, ANY]), ("either", [ANY, B, A])]), "a",
             [[(0, "a"), (0, "a")], [(0, "a"), (2, "a")], [(1, "a"), (0, "a")], [(1, "a"), (2, "a")]]),
            (("not", A), "b", [()]),
            (("not", A), "a", []),
            (("times", A, 0, 0), "", [[]]),
            (("times", A, 0, 0), "a", []),
            (("times", maybe, 2, 3), "a", [[("a", (0, "a")), ("", (1, ()))], [("", (1, ())), ("a", (0, "a"))],
                                           [("", (1, ())), ("", (1, ())), ("a", (0, "a"))]]),
            (("times", maybe, 0, None), "", [[]]),
            (("times", maybe, 1, None), "", [[("", (1, ()))]]),
        ):
            self.assertEqual(ways("ab", rule, word), told, rule)
            self.assertEqual(count_ways("ab", rule, word), len(told))

    def check(self, letters, rule, word):
        told = all_ways(rule, word)
        self.assertEqual(count_ways(letters, rule, word), len(told))
        self.assertEqual(ways(letters, rule, word), told[:100])
        for most in (0, 1, 2, 100):
            self.assertEqual(ways(letters, rule, word, most=most), told[:most])
        for place in [0, 1, len(told) // 2, len(told) - 1, len(told), len(told) + 1, 10 ** 40]:
            if place >= 0:
                way = told[place] if place < len(told) else None
                self.assertEqual(way_at(letters, rule, word, place), way)
                if way is not None:
                    self.assertEqual(place_of_way(letters, rule, word, way), place)

    def test_made_up_rules(self):
        for letters, rule in some_rules(95, 250):
            if weight_of(rule) <= 60:
                for word in all_words(letters, MOST[letters] - 1):
                    self.check(letters, rule, word)

    def test_times_with_parts_without_signs(self):
        for low, high in ((0, 1), (0, None), (1, None), (2, None), (2, 2), (2, 4), (3, 3), (3, 5)):
            for inner in (("either", [EMPTY, A]), ("either", [A, EMPTY, EMPTY]), ("times", A, 0, None), EMPTY,
                          ("not", ("row", [A, A]))):
                for word in ("", "a", "aa", "aaa"):
                    self.check("ab", ("times", inner, low, high), word)

    def test_great_numbers(self):
        # A cut or none behind each of 29 signs.
        rule = ("times", ("times", A, 1, None), 1, None)
        word = "a" * 30
        self.assertEqual(count_ways("a", rule, word), 2 ** 29)
        last = [("a", [("a", "a")])] * 30
        self.assertEqual(way_at("a", rule, word, 0), [(word, [("a", "a")] * 30)])
        self.assertEqual(way_at("a", rule, word, 2 ** 29 - 1), last)
        self.assertEqual(place_of_way("a", rule, word, last), 2 ** 29 - 1)
        self.assertIsNone(way_at("a", rule, word, 2 ** 29))
        deep = ("times", ("times", ("times", ("times", A, 1, None), 1, None), 1, None), 1, None)
        self.assertEqual((weight_of(deep), count_ways("a", deep, word)), (16, 4 ** 29))
        choices = ("times", ("either", [A] * 6), 0, None)
        self.assertEqual(count_ways("a", choices, word), 6 ** 30)
        rng = random.Random(96)
        for _ in range(20):
            for big, many in ((deep, 4 ** 29), (choices, 6 ** 30)):
                place = rng.randrange(many)
                way = way_at("a", big, word, place)
                self.assertEqual(place_of_way("a", big, word, way), place)
                self.assertIs(is_way("a", big, word, way), True)
        self.assertIsNone(way_at("a", choices, word, 6 ** 30))
        self.assertIsNone(way_at("a", choices, word, 10 ** 100))
        self.assertEqual(way_at("a", choices, word, 6 ** 30 - 1), [("a", (5, "a"))] * 30)
        self.assertEqual(len(ways("a", choices, word)), 100)

    def test_order_of_great_numbers(self):
        rule = ("times", ("either", [A, ("row", [A, A]), ("times", A, 1, 3)]), 0, None)
        word = "a" * 24
        found = ways("a", rule, word, most=60)
        self.assertEqual(found, [way_at("a", rule, word, place) for place in range(60)])
        self.assertEqual([place_of_way("a", rule, word, way) for way in found], list(range(60)))

    def test_values_that_are_no_ways(self):
        for value in (None, [], (), "aa", [("aa", (True, [("a", "a"), ("a", "a")]))], [("a", (0, "a"))],
                      (("a", (0, "a")), ("a", (0, "a"))), [("a", (0, "a")), ["a", (0, "a")]]):
            self.assertIsNone(place_of_way("ab", EXAMPLE, "aa", value))
        self.assertIsNone(place_of_way("ab", EXAMPLE, "a", [("a", (0, "a")), ("a", (0, "a"))]))

    def test_words_that_do_not_belong(self):
        for word in ("b", "ab", "a" * 29 + "b"):
            self.assertEqual(count_ways("ab", EXAMPLE, word), 0)
            self.assertEqual(ways("ab", EXAMPLE, word), [])
            self.assertIsNone(way_at("ab", EXAMPLE, word, 0))

    def test_weight_of_60_and_61(self):
        just = ("row", [("times", ("row", [A] * 6), 0, 5), ("times", ("row", [A] * 5), 0, 6)])
        more = ("row", [just, EMPTY])
        self.assertEqual((weight_of(just), weight_of(more)), (60, 61))
        self.assertEqual(count_ways("ab", just, "a" * 30), 2)
        for call in ((count_ways, "ab", more, "a" * 30), (ways, "ab", more, ""), (way_at, "ab", more, "", 10 ** 30),
                     (place_of_way, "ab", more, "", None), (place_of_way, "ab", more, "b", [])):
            with self.assertRaises(BadSize) as caught:
                call[0](*call[1:])
            self.assertEqual(caught.exception.size, 61)
        with self.assertRaises(BadSize) as caught:
            ways("ab", more, "b", most=0)
        pairs = [("a" * 30, [("a" * 6, [("a", "a")] * 6)] * 5), ("", [])]
        self.assertIs(is_of("ab", more, "a" * 30), True)
        self.assertIs(is_way("ab", just, "a" * 30, pairs), True)
        self.assertIs(is_way("ab", more, "a" * 30, [("a" * 30, pairs), ("", ())]), True)

    def test_60_parts_and_30_signs(self):
        lot = ("either", [("times", ("either", [A, B, ("row", [A, B]), EMPTY]), 0, None)] * 6)
        rule = ("row", [lot, ("both", [("times", ANY, 0, None), ("not", ("row", [A, B]))])])
        self.assertLessEqual(size_of(rule), 60)
        word = "ab" * 15
        many = count_ways("ab", rule, word)
        self.assertEqual(place_of_way("ab", rule, word, way_at("ab", rule, word, many - 1)), many - 1)
        self.assertIsNone(way_at("ab", rule, word, many))

    def test_same_question_twice_and_nothing_modified(self):
        rule = ("row", [EXAMPLE, ("both", [ANY, ("not", EMPTY)])])
        check_new(self, weight_of, rule)
        check_new(self, is_of, "ab", rule, "aab")
        check_new(self, count_ways, "ab", rule, "aab")
        check_new(self, ways, "ab", rule, "aaab")
        check_new(self, way_at, "ab", rule, "aab", 1)
        way = way_at("ab", rule, "aab", 1)
        check_new(self, is_way, "ab", rule, "aab", way)
        check_new(self, place_of_way, "ab", rule, "aab", way)
        found = ways("ab", rule, "aab")
        found[0].clear()
        self.assertEqual(way_at("ab", rule, "aab", 1), way)


if __name__ == "__main__":
    unittest.main()
