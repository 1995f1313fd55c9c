import random
import unittest

from growing import Growing, some_sheet, some_sheets, words_of
from helpers import all_words, check_new, counter, cycle, some_machines, taken

from hallofwords.errors import (
    BadLetters, BadName, BadRule, BadSheet, BadSize, InUse, TooDeep, TooGreat, TooMany, UnknownName
)
from hallofwords.machines import least, words_upto
from hallofwords.rules import size_of
from hallofwords.sheets import (
    check_sheet, first_word_of, has_word, is_one_sided, least_length, least_lengths, machine_of_sheet, sheet_of,
    used_names
)

ONE = ("one", "a")
EMPTY = ("empty",)


def deep(depth, inner=ONE):
    for _ in range(depth):
        inner = ("row", [inner])
    return inner


def first_in_order(letters, words):
    return min(words, key=lambda word: (len(word), [letters.index(sign) for sign in word]), default=None)


def doubling(many, times, last):
    """A sheet in which each name but the last one is so many times the next one."""
    names = [f"n{k}" for k in range(many)]
    return [(name, ("row", [("name", behind)] * times)) for name, behind in zip(names, names[1:])] + [(names[-1], last)]


class CheckTest(unittest.TestCase):
    def raised(self, sheet, letters="ab"):
        try:
            return check_new(self, check_sheet, letters, sheet)
        except (BadSize, BadName, InUse, TooDeep, BadRule, BadLetters, UnknownName) as error:
            fields = [getattr(error, field) for field in ("size", "name") if hasattr(error, field)]
            return (type(error), *fields)

    def test_right_sheets(self):
        for sheet in (
            [("s", EMPTY)],
            [("s", ("name", "s"))],
            [("s", ("name", "t")), ("t", ("row", [("name", "s"), ONE]))],
            [("abcdefghij12", ("either", [ONE] * 6))],
            [(f"n{k}", ("name", f"n{11 - k}")) for k in range(12)],
            [("s", deep(8))],
            [("s", ("row", [("row", [ONE] * 6)] * 6))],
        ):
            self.assertIsNone(self.raised(sheet))
        for _, letters, sheet in some_sheets(1701, 60):
            self.assertIsNone(check_sheet(letters, sheet))

    def test_numbers_of_tuples(self):
        self.assertEqual(self.raised([]), (BadSize, 0))
        self.assertIsNone(self.raised([(f"n{k}", ONE) for k in range(12)]))
        self.assertEqual(self.raised([(f"n{k}", ONE) for k in range(13)]), (BadSize, 13))
        self.assertEqual(self.raised([("", ("bad",))] * 13), (BadSize, 13))

    def test_names(self):
        for name in ("", "1a", "A", "a_", "a b", "abcdefghijklm", "sA", "-"):
            self.assertEqual(self.raised([("s", ONE), (name, ONE)]), (BadName,))
            self.assertEqual(self.raised([(name, ("bad",)), ("s", ONE)]), (BadName,))
        self.assertEqual(self.raised([("s", ONE), ("t", ONE), ("s", ONE)]), (InUse, "s"))
        self.assertEqual(self.raised([("s", ("bad",)), ("t", ONE), ("t", ("bad",)), ("", ONE)]), (InUse, "t"))
        self.assertEqual(self.raised([("s", ("bad",)), ("", ONE), ("s", ONE)]), (BadName,))

    def test_each_part(self):
        for body, wanted in (
            (("none",), (BadRule,)),
            (("both", [ONE]), (BadRule,)),
            (("not", ONE), (BadRule,)),
            (("times", ONE, 0, None), (BadRule,)),
            (("both", []), (BadRule,)),
            (("times", ONE, True, -1), (BadRule,)),
            (("rows", [ONE]), (BadRule,)),
            (("empty", 1), (BadRule,)),
            (("one",), (BadRule,)),
            (("name",), (BadRule,)),
            (("name", "s", "s"), (BadRule,)),
            (("row", [ONE], 1), (BadRule,)),
            (("one", ""), (BadLetters,)),
            (("one", "ba"), (BadLetters,)),
            (("one", "ac"), (BadLetters,)),
            (("one", "aa"), (BadLetters,)),
            (("row", []), (BadSize, 0)),
            (("either", [ONE] * 7), (BadSize, 7)),
            (("row", [("none",)] * 7), (BadSize, 7)),
            (("name", "S"), (BadName,)),
            (("name", ""), (BadName,)),
            (("name", "t"), (UnknownName, "t")),
            (("row", [("either", [ONE, ("not", ("bad",))]), ("one", "")]), (BadRule,)),
            (("row", [("either", [ONE, ("name", "u")]), ("one", "")]), (UnknownName, "u")),
            (("row", [("one", ""), ("none",)]), (BadLetters,)),
            (deep(9), (TooDeep,)),
            (deep(9, ("none",)), (TooDeep,)),
            (deep(8, ("none",)), (BadRule,)),
            (deep(8, ("one", "ba")), (BadLetters,)),
            (("row", [deep(8), ("none",)]), (TooDeep,)),
            (("row", [("none",), deep(8)]), (BadRule,)),
        ):
            for sheet in ([("s", body)], [("s", body), ("q", ("none",))], [("q", ONE), ("s", body)]):
                self.assertEqual(self.raised(sheet), wanted, body)

    def test_numbers_of_parts(self):
        six = ("row", [ONE] * 6)
        # Eight bodies of 7 parts and one of 4, 60 together; the depth does not go on from body to body.
        for more, wanted in ((0, None), (1, (BadSize, 61)), (3, (BadSize, 63))):
            bodies = [six] * 8 + [("row", [ONE] * (3 + more))]
            sheet = [(f"n{k}", body) for k, body in enumerate(bodies)]
            self.assertEqual(sum(size_of(body) for body in bodies), 60 + more)
            self.assertEqual(self.raised(sheet), wanted)
        self.assertEqual(self.raised([("s", ("row", [six] * 6)), ("t", ("row", [six] * 6))]), (BadSize, 86))
        self.assertEqual(self.raised([("s", ("row", [six] * 6)), ("t", ("row", [six] * 5 + [("none",)]))]), (BadRule,))
        self.assertEqual(self.raised([("s", deep(8)), ("t", deep(8))]), None)


class WordsTest(unittest.TestCase):
    def test_against_short_words(self):
        seen = {"none": 0, "some": 0, "unused": 0}
        for rng, letters, sheet in some_sheets(1711, 250):
            words = words_of(sheet, 6)
            lengths = check_new(self, least_lengths, letters, sheet)
            for (name, _), length in zip(sheet, lengths):
                if length is None or length > 6:
                    self.assertEqual(words[name], set())
                else:
                    self.assertEqual(length, min(map(len, words[name])))
            head = words[sheet[0][0]]
            self.assertIs(check_new(self, has_word, letters, sheet), lengths[0] is not None)
            self.assertEqual(check_new(self, least_length, letters, sheet), lengths[0])
            first = check_new(self, first_word_of, letters, sheet)
            if lengths[0] is None or lengths[0] <= 6:
                self.assertEqual(first, first_in_order(letters, head))
            used = check_new(self, used_names, letters, sheet)
            self.assertEqual(used, slow_used(letters, sheet, words))
            seen["none" if lengths[0] is None else "some"] += 1
            seen["unused"] += 0 < len(used) < len(sheet)
        self.assertGreater(min(seen.values()), 10)

    def test_names_without_words(self):
        for sheet, lengths, used in (
            ([("s", ("name", "s"))], [None], []),
            ([("s", ("row", [ONE, ("name", "s")]))], [None], []),
            ([("s", ("either", [("name", "s"), ONE]))], [1], ["s"]),
            ([("s", ("either", [("row", [("name", "t"), ("name", "u")]), EMPTY])), ("t", ONE), ("u", ("name", "u"))],
             [0, 1, None], ["s"]),
            ([("s", ("row", [("name", "t"), ("name", "u")])), ("t", ONE), ("u", ("name", "u"))],
             [None, 1, None], []),
            ([("s", ONE), ("t", ("row", [ONE, ONE])), ("u", ("name", "s"))], [1, 2, 1], ["s"]),
            ([("u", ("name", "s")), ("t", ("row", [ONE, ONE])), ("s", ("either", [("name", "u"), ONE, ("name", "t")]))],
             [1, 2, 1], ["u", "t", "s"]),
        ):
            self.assertEqual(least_lengths("ab", sheet), lengths)
            self.assertEqual(least_length("ab", sheet), lengths[0])
            self.assertIs(has_word("ab", sheet), lengths[0] is not None)
            self.assertEqual(used_names("ab", sheet), used)
            if lengths[0] is None:
                self.assertIsNone(first_word_of("ab", sheet))

    def test_long_lengths(self):
        sheet = doubling(11, 4, ONE)
        self.assertEqual(least_lengths("ab", sheet), [4 ** (10 - k) for k in range(11)])
        sheet = [(f"n{k}", ("row", [("row", [("name", f"n{k + 1}")] * 3)] * 1)) for k in range(11)] + [("n11", ONE)]
        self.assertEqual(least_length("ab", sheet), 3 ** 11)
        with self.assertRaises(BadSize) as caught:
            first_word_of("ab", sheet)
        self.assertEqual(caught.exception.size, 3 ** 11)

    def test_first_words_of_200_and_201_signs(self):
        # 200 is 5 * 5 * 8; the other way is longer by one sign, or shorter by one.
        def sheet(more):
            five = ("row", [("name", "t")] * 5)
            return [
                ("s", ("row", [("row", [("name", "r")] * 5)] + [ONE] * more)),
                ("r", five), ("t", ("row", [("name", "q"), ("name", "q")])), ("q", ("row", [("one", "ab")] * 4)),
            ]
        self.assertEqual(first_word_of("ab", sheet(0)), "a" * 200)
        self.assertEqual(first_word_of("ba", sheet(0)), "b" * 200)
        with self.assertRaises(BadSize) as caught:
            first_word_of("ab", sheet(1))
        self.assertEqual(caught.exception.size, 201)
        # Of a long and a short choice the short one is taken, whatever the long one is.
        for body, word in ((("either", [("name", "s"), ("one", "b")]), "b"), (("either", [("name", "s"), EMPTY]), "")):
            self.assertEqual(first_word_of("ab", [("x", body)] + sheet(1)), word)
        self.assertEqual(least_lengths("ab", sheet(1)), [201, 40, 8, 4])

    def test_the_first_one_of_several_shortest(self):
        sheet = [("s", ("either", [("row", [("one", "b"), ("name", "t")]), ("row", [("name", "t"), ("one", "b")])])),
                 ("t", ("either", [("one", "c"), ("row", [("name", "t")]), ("one", "ab")]))]
        self.assertEqual(first_word_of("abc", sheet), "ab")
        self.assertEqual(first_word_of("cab", [("s", sheet[0][1]), ("t", ("either", [("one", "ab"), ("one", "c")]))]),
                         "cb")
        self.assertEqual(first_word_of("bac", [("s", sheet[0][1]), ("t", ("one", "ac"))]), "ba")


def slow_used(letters, sheet, words):
    """The names that stand in some tree, by the words of at most 6 signs; larger trees use no other names here."""
    used = set()
    for word in sorted(words[sheet[0][0]], key=len)[:40]:
        growing = Growing(sheet, word)
        met, waiting = set(), [(sheet[0][0], 0, len(word))]
        while waiting:
            spot = waiting.pop()
            if spot not in met:
                met.add(spot)
                waiting += growing.under(spot)
        used |= {name for name, _, _ in met}
    return [name for name, _ in sheet if name in used]


class OneSidedTest(unittest.TestCase):
    def test_is_one_sided(self):
        name = ("name", "s")
        for body, told in (
            (name, True),
            (("row", [name]), True),
            (("row", [ONE, name]), True),
            (("row", [name, ONE]), False),
            (("row", [name, name]), False),
            (("row", [("either", [ONE, ("row", [name])]), ONE]), False),
            (("row", [ONE, ("either", [ONE, ("row", [ONE, name]), name])]), True),
            (("row", [ONE, ("row", [ONE, ("row", [name, EMPTY])])]), False),
            (("either", [name, ("row", [ONE, name]), name]), True),
            (("either", [name, ("row", [ONE, ("either", [name])]), ("row", [("either", [name]), ONE])]), False),
            (("row", [("row", [ONE, name]), EMPTY]), False),
            (("row", [("row", [ONE, EMPTY]), ("either", [ONE]), name]), True),
        ):
            for sheet in ([("s", body)], [("q", ONE), ("s", body)]):
                self.assertIs(check_new(self, is_one_sided, "ab", sheet), told, body)
            if not told:
                with self.assertRaises(BadSheet):
                    machine_of_sheet("ab", [("s", body)])

    def test_machines_against_short_words(self):
        found = 0
        for rng, letters, sheet in some_sheets(1721, 250, one_sided=True):
            self.assertTrue(is_one_sided(letters, sheet))
            machine = check_new(self, machine_of_sheet, letters, sheet)
            self.assertEqual(least(letters, machine), machine)
            words = words_of(sheet, 5)[sheet[0][0]]
            self.assertEqual({word for word in all_words(letters, 5) if taken(letters, machine, word)}, words)
            found += len(machine[0]) > 2
        self.assertGreater(found, 60)

    def test_sheets_that_are_not_one_sided(self):
        refused = 0
        for rng, letters, sheet in some_sheets(1722, 150):
            if is_one_sided(letters, sheet):
                machine_of_sheet(letters, sheet)
            else:
                refused += 1
                with self.assertRaises(BadSheet):
                    machine_of_sheet(letters, sheet)
        self.assertGreater(refused, 40)

    def test_limits(self):
        # The sign a, so many signs behind, and the end: over two letters 2 to the power of so many sets are met.
        def far(many):
            letters = ("one", "ab")
            return [
                ("s", ("either", [("row", [letters, ("name", "s")]), ("row", [ONE, tail(many)])])),
            ]

        def tail(many):
            row = [("one", "ab")] * min(many, 5)
            return ("row", row + [tail(many - 5)] if many > 5 else row)
        for many, error in ((4, None), (5, TooGreat), (9, TooGreat), (10, TooMany), (15, TooMany)):
            check_sheet("ab", far(many))
            if error is None:
                self.assertEqual(len(machine_of_sheet("ab", far(many))[0]), 2 ** (many + 1))
            else:
                with self.assertRaises(error):
                    machine_of_sheet("ab", far(many))
        # BadSheet stands ahead.
        with self.assertRaises(BadSheet):
            machine_of_sheet("ab", far(15) + [("t", ("row", [("name", "s"), ONE]))])

    def test_equal_rests_are_the_same(self):
        # The rows of both choices are equal behind the first sign: as many sets are met as for one of them.
        row = ("row", [("one", "ab"), ("row", [ONE, ("name", "s")])])
        sheet = [("s", ("either", [row, ("row", [ONE, ONE, ("name", "s")]), EMPTY]))]
        self.assertEqual(words_upto("ab", machine_of_sheet("ab", sheet), 4),
                         sorted(words_of(sheet, 4)["s"], key=lambda word: (len(word), word)))


def slow_sheet(letters, machine):
    """The sheet of point 133, without its errors."""
    table, ends = least(letters, machine)
    leads = set()
    for _ in table:
        leads |= {p for p in range(len(table)) if ends[p] or any(q in leads for q in table[p])}
    sheet = []
    for p in sorted(leads):
        rules = []
        for sign, q in zip(letters, table[p]):
            told = "".join(x for x, r in zip(letters, table[p]) if r == q)
            if q in leads and told[0] == sign:
                rules.append(("row", [("one", told), ("name", f"s{q}")]))
        if ends[p]:
            rules.append(("empty",))
        if len(rules) == 7:
            rules = rules[:5] + [("either", rules[5:])]
        sheet.append((f"s{p}", rules[0] if len(rules) == 1 else ("either", rules)))
    return sheet or [("s0", ("name", "s0"))]


class SheetOfMachineTest(unittest.TestCase):
    def test_made_up_machines(self):
        seen = {True: 0, False: 0}
        for letters, machine in some_machines(1731, 250, most=9):
            sheet = slow_sheet(letters, machine)
            size = sum(size_of(body) for _, body in sheet)
            seen[size <= 60] += 1
            if size > 60:
                with self.assertRaises(BadSize) as caught:
                    sheet_of(letters, machine)
                self.assertEqual(caught.exception.size, size)
                continue
            self.assertEqual(check_new(self, sheet_of, letters, machine), sheet)
            check_sheet(letters, sheet)
            self.assertTrue(is_one_sided(letters, sheet))
            self.assertEqual(machine_of_sheet(letters, sheet), least(letters, machine))
        self.assertGreater(seen[True], 150)
        self.assertGreater(seen[False], 5)

    def test_rule_for_rule(self):
        self.assertEqual(sheet_of("ab", ([[0, 0]], [False])), [("s0", ("name", "s0"))])
        self.assertEqual(sheet_of("ab", ([[1, 0], [1, 0]], [False, False])), [("s0", ("name", "s0"))])
        self.assertEqual(
            sheet_of("ab", ([[0, 0]], [True])),
            [("s0", ("either", [("row", [("one", "ab"), ("name", "s0")]), EMPTY]))],
        )
        # A state with one rule, one with none but empty, and a state from which nothing leads on.
        self.assertEqual(
            sheet_of("ba", ([[1, 2], [2, 2], [2, 2]], [False, True, False])),
            [("s0", ("row", [("one", "b"), ("name", "s1")])), ("s1", EMPTY)],
        )
        # Letters are put together, and the rules stand in the order of their first letters.
        self.assertEqual(
            sheet_of("abc", ([[1, 0, 1], [1, 1, 1]], [False, True])),
            [("s0", ("either", [("row", [("one", "ac"), ("name", "s1")]), ("row", [("one", "b"), ("name", "s0")])])),
             ("s1", ("either", [("row", [("one", "abc"), ("name", "s1")]), EMPTY]))],
        )

    def test_six_and_seven_rules(self):
        # From state 0 by each of six letters to another state.
        letters = "abcdef"
        table = [[0, 1, 2, 3, 4, 5]] + [[k + 1] * 6 for k in range(1, 6)] + [[6] * 6]
        for ends, many in (([False] * 6 + [True], 6), ([True] + [False] * 5 + [True], 7)):
            sheet = sheet_of(letters, (table, ends))
            kind, rules = sheet[0][1]
            self.assertEqual((kind, len(rules)), ("either", 6))
            told = [("row", [("one", sign), ("name", f"s{k}")]) for k, sign in enumerate(letters)]
            if many == 6:
                self.assertEqual(rules, told)
            else:
                self.assertEqual(rules, told[:5] + [("either", [told[5], EMPTY])])
            self.assertEqual(machine_of_sheet(letters, sheet), least(letters, (table, ends)))

    def test_sizes(self):
        for machine, size in ((counter(10), None), (counter(11), None), (counter(12), 13), (counter(40), 41),
                              (cycle(12, 0), None), (cycle(13, 0), 13), (cycle(60, 0), 60)):
            if size is None:
                sheet_of("a", machine)
                continue
            with self.assertRaises(BadSize) as caught:
                sheet_of("a", machine)
            self.assertEqual(caught.exception.size, size)
        # States that are alike or not useful do not count.
        self.assertEqual(sheet_of("a", cycle(60, *range(0, 60, 12))), sheet_of("a", cycle(12, 0)))
        # 60 parts and 61: states with two rows have 7 parts, with one row 3, and empty is one more.
        sizes = {}
        rng = random.Random(1732)
        for _ in range(3000):
            many = rng.choice([8, 9, 10])
            table = [[rng.randrange(many), rng.randrange(many)] for _ in range(many)]
            machine = (table, [rng.random() < 0.5 for _ in range(many)])
            size = sum(size_of(body) for _, body in slow_sheet("ab", machine))
            if sizes.get(size, 0) < 3 and 58 <= size <= 63:
                sizes[size] = sizes.get(size, 0) + 1
                if size <= 60:
                    check_sheet("ab", sheet_of("ab", machine))
                else:
                    with self.assertRaises(BadSize) as caught:
                        sheet_of("ab", machine)
                    self.assertEqual(caught.exception.size, size)
        self.assertGreaterEqual(set(sizes), {60, 61})
        # With more than 12 useful states their number is told, however many parts there are.
        many = 13
        table = [[(k + 1) % many, (2 * k) % many] for k in range(many)]
        machine = (table, [k == 3 for k in range(many)])
        self.assertEqual(len(least("ab", machine)[0]), 13)
        with self.assertRaises(BadSize) as caught:
            sheet_of("ab", machine)
        self.assertEqual(caught.exception.size, 13)

    def test_made_up_sheets_of_their_machines(self):
        rng = random.Random(1733)
        for _ in range(60):
            sheet = some_sheet(rng, "ab", one_sided=True)
            machine = machine_of_sheet("ab", sheet)
            try:
                again = sheet_of("ab", machine)
            except BadSize:
                continue
            self.assertEqual(machine_of_sheet("ab", again), machine)


if __name__ == "__main__":
    unittest.main()
