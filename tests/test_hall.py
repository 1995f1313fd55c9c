import copy
import random
import unittest

from helpers import cycle, lists_in, some_rule, taken_words

from hallofwords.back import rule_of
from hallofwords.deciding import parting_word
from hallofwords.errors import (
    BadEntry, BadLetters, BadName, BadNumber, BadRule, BadSize, HallError, InUse, NothingToRedo, NothingToUndo, Ring,
    TooDeep, TooGreat, TooMany, UnknownName
)
from hallofwords.hall import Hall, replay
from hallofwords.machines import least
from hallofwords.making import machine_of
from hallofwords.rules import depth_of, size_of

A, B, AB = ("one", "a"), ("one", "b"), ("one", "ab")
EMPTY, NONE = ("empty",), ("none",)


def name(told):
    return ("name", told)


def row(*rules):
    return ("row", list(rules))


def either(*rules):
    return ("either", list(rules))


def written(rules, rule):
    """The rule with the rules of the names in their place."""
    if rule[0] == "name":
        return written(rules, rules[rule[1]])
    if rule[0] in ("row", "either", "both"):
        return (rule[0], [written(rules, inner) for inner in rule[1]])
    if rule[0] in ("not", "times"):
        return (rule[0], written(rules, rule[1])) + rule[2:]
    return rule


def names_in(rule):
    if rule[0] == "name":
        return {rule[1]}
    if rule[0] in ("row", "either", "both"):
        return set().union(*[names_in(inner) for inner in rule[1]])
    return names_in(rule[1]) if rule[0] in ("not", "times") else set()


def renamed(rule, old, new):
    if rule == ("name", old):
        return ("name", new)
    if rule[0] in ("row", "either", "both"):
        return (rule[0], [renamed(inner, old, new) for inner in rule[1]])
    if rule[0] in ("not", "times"):
        return (rule[0], renamed(rule[1], old, new)) + rule[2:]
    return rule


def machine_in(letters, rules, rule):
    """The machine of a rule, straight from point 141, of rules for which no error is due."""
    return machine_of(letters, written(rules, rule))


class SlowHall:
    """A hall that keeps copies of all rules ahead of each deed; for deeds that raise no error."""

    def __init__(self, letters):
        self.letters, self.rules, self.past, self.ahead, self.deeds = letters, {}, [], [], []

    def do(self, deed):
        before = copy.deepcopy(self.rules)
        if deed[0] == "undo":
            self.ahead.append(self.rules)
            self.rules = self.past.pop()
        elif deed[0] == "redo":
            self.past.append(self.rules)
            self.rules = self.ahead.pop()
        else:
            self.past.append(before)
            self.ahead = []
            if deed[0] == "put":
                self.rules = {**self.rules, deed[1]: copy.deepcopy(deed[2])}
            elif deed[0] == "remove":
                self.rules = {told: rule for told, rule in self.rules.items() if told != deed[1]}
            else:
                self.rules = {deed[2] if told == deed[1] else told: renamed(rule, deed[1], deed[2])
                              for told, rule in self.rules.items()}
        self.deeds.append(copy.deepcopy(deed))
        return self.changed(before, self.rules)

    def changed(self, before, behind):
        found = []
        for told in behind:
            if told not in before:
                found.append((told, "new", None))
            else:
                word = parting_word(self.letters, machine_in(self.letters, before, before[told]),
                                    machine_in(self.letters, behind, behind[told]))
                if word is not None:
                    found.append((told, "other", word))
        return found + [(told, "gone", None) for told in before if told not in behind]


def state_of(hall):
    """All that a hall tells, and what it tells when it goes back and forth to both ends."""
    names = hall.names()
    told = []
    for word in names:
        try:
            whole = hall.written_out(word)
        except HallError as error:
            whole = type(error)
        told.append((word, hall.rule(word), hall.machine(word), hall.users(word), whole))
    return told, len(hall), hall.can_undo, hall.can_redo, hall.journal()


def ends_of(hall):
    """What a copy of the hall tells when it goes back to one end and forth to the other one."""
    hall = copy.deepcopy(hall)
    told = []
    forth = 0
    while hall.can_redo:
        told.append((hall.redo(), state_of(hall)[:4]))
        forth += 1
    while hall.can_undo:
        told.append((hall.undo(), state_of(hall)[:4]))
    return told, forth


def some_deed(rng, letters, names):
    kind = rng.choice("put put put put remove rename undo undo redo".split())
    every = ["x", "y", "z1", "w", "q9"]
    there = rng.choice(names) if names and rng.random() < 0.8 else rng.choice(every)
    if kind == "put":
        rule = some_rule(rng, letters, rng.choice([0, 1, 2]))
        for _ in range(rng.choice([0, 1, 1, 2])):
            rule = rng.choice([row, either])(rule, name(rng.choice(names or every)))
        return ("put", rng.choice(every), rule)
    if kind == "remove":
        return ("remove", there)
    if kind == "rename":
        return ("rename", there, rng.choice(every))
    return (kind,)


class DeedsTest(unittest.TestCase):
    def do(self, hall, deed):
        """Does the deed by its own method."""
        return getattr(hall, deed[0])(*deed[1:])

    def test_against_the_document(self):
        done = {"put": 0, "remove": 0, "rename": 0, "undo": 0, "redo": 0, "refused": 0}
        for seed in range(60):
            rng = random.Random(2100 + seed)
            letters = rng.choice(["a", "ab", "ba"])
            hall, slow = Hall(letters), SlowHall(letters)
            for _ in range(25):
                deed = some_deed(rng, letters, hall.names())
                before, ends = state_of(hall), ends_of(hall)
                kept = copy.deepcopy(deed)
                try:
                    changes = self.do(hall, deed)
                except HallError:
                    done["refused"] += 1
                    self.assertEqual((state_of(hall), ends_of(hall)), (before, ends))
                    self.assertEqual(deed, kept)
                    continue
                done[deed[0]] += 1
                self.assertEqual(deed, kept)
                self.assertEqual(changes, slow.do(deed))
                self.check_same(hall, slow)
            again = replay(letters, hall.journal())
            self.assertEqual((state_of(again), ends_of(again)), (state_of(hall), ends_of(hall)))
        self.assertGreater(min(done.values()), 30)

    def check_same(self, hall, slow):
        self.assertEqual(hall.names(), list(slow.rules))
        self.assertEqual(len(hall), len(slow.rules))
        self.assertEqual(hall.journal(), slow.deeds)
        self.assertIs(hall.can_undo, bool(slow.past))
        self.assertIs(hall.can_redo, bool(slow.ahead))
        for told, rule in slow.rules.items():
            self.assertIs(told in hall, True)
            self.assertEqual(hall.rule(told), rule)
            self.assertEqual(hall.machine(told), machine_in(slow.letters, slow.rules, rule))
            self.assertEqual(hall.users(told), [other for other, used in slow.rules.items() if told in names_in(used)])
        self.assertIs("none9" in hall, False)

    def test_what_is_told(self):
        hall = Hall("ab")
        self.assertEqual((hall.names(), len(hall), hall.can_undo, hall.can_redo, hall.journal()),
                         ([], 0, False, False, []))
        self.assertEqual(hall.put("x", A), [("x", "new", None)])
        self.assertEqual(hall.put("y", row(name("x"), name("x"))), [("y", "new", None)])
        self.assertEqual(hall.put("z", ("not", name("y"))), [("z", "new", None)])
        self.assertEqual(hall.users("x"), ["y"])
        self.assertEqual(hall.users("z"), [])
        # What comes of a name that is put anew is told for those that use it, too; not if their words stay.
        self.assertEqual(hall.put("x", either(A, A)), [])
        self.assertEqual(hall.put("x", AB), [("x", "other", "b"), ("y", "other", "ab"), ("z", "other", "ab")])
        self.assertEqual(hall.put("y", row(name("x"), B)), [("y", "other", "aa"), ("z", "other", "aa")])
        self.assertEqual(hall.rename("x", "first"), [("first", "new", None), ("x", "gone", None)])
        self.assertEqual(hall.names(), ["first", "y", "z"])
        self.assertEqual(hall.rule("y"), row(name("first"), B))
        self.assertEqual(hall.rename("y", "y"), [])
        self.assertEqual(hall.remove("z"), [("z", "gone", None)])
        self.assertEqual(hall.undo(), [("z", "new", None)])
        self.assertEqual(hall.undo(), [])
        self.assertEqual(hall.undo(), [("x", "new", None), ("first", "gone", None)])
        self.assertEqual(hall.names(), ["x", "y", "z"])
        self.assertEqual(hall.redo(), [("first", "new", None), ("x", "gone", None)])
        self.assertEqual((hall.can_undo, hall.can_redo), (True, True))
        self.assertEqual(hall.put("first", AB), [])
        self.assertEqual((hall.can_undo, hall.can_redo), (True, False))
        self.assertEqual(len(hall.journal()), 14)

    def test_orders(self):
        hall = Hall("ab")
        for told in "cab":
            hall.put(told, A)
        self.assertEqual(hall.names(), ["c", "a", "b"])
        hall.put("c", B)
        self.assertEqual(hall.names(), ["c", "a", "b"])
        hall.remove("c")
        hall.put("c", B)
        self.assertEqual(hall.names(), ["a", "b", "c"])
        hall.undo()
        hall.undo()
        self.assertEqual(hall.names(), ["c", "a", "b"])
        hall.put("d", row(name("b"), name("c")))
        hall.rename("c", "z")
        self.assertEqual(hall.names(), ["z", "a", "b", "d"])
        hall.put("e", either(name("b"), name("b")))
        self.assertEqual(hall.users("b"), ["d", "e"])
        self.assertEqual(hall.do_all([("rename", "a", "aa"), ("remove", "d"), ("put", "n", A), ("put", "z", A)]),
                         [("z", "other", "a"), ("aa", "new", None), ("n", "new", None), ("a", "gone", None),
                          ("d", "gone", None)])

    def test_a_name_that_uses_the_words_of_names(self):
        # The machine of a name is met in the making, also where its rule alone has another road.
        hall = Hall("ab")
        hall.put("x", row(A, either(EMPTY, B)))
        hall.put("y", ("times", name("x"), 0, None))
        hall.put("z", ("both", [name("y"), ("not", name("x"))]))
        self.assertEqual(taken_words("ab", hall.machine("z"), 2), ["", "aa"])
        self.assertEqual(hall.machine("z"), machine_of("ab", hall.written_out("z")))


class ErrorsTest(unittest.TestCase):
    def check(self, hall, deed, error, **fields):
        before, ends = state_of(hall), ends_of(hall)
        for call in (lambda: getattr(hall, deed[0])(*deed[1:]), lambda: hall.do_all([deed]), lambda: hall.what_if([deed])):
            with self.assertRaises(error) as caught:
                call()
            self.assertIs(type(caught.exception), error)
            for field, told in fields.items():
                self.assertEqual(getattr(caught.exception, field), told)
            self.assertEqual((state_of(hall), ends_of(hall)), (before, ends))

    def some_hall(self):
        hall = Hall("ab")
        hall.put("x", A)
        hall.put("y", row(name("x"), B))
        hall.put("z", name("y"))
        hall.put("w", B)
        hall.undo()
        return hall

    def test_letters(self):
        for letters in ("", "aa", "A", "abcdefg"):
            with self.assertRaises(BadLetters):
                Hall(letters)
            with self.assertRaises(BadLetters):
                replay(letters, [("undo",)])

    def test_put(self):
        hall = self.some_hall()
        for word in ("", "1", "X", "a-", "abcdefghijklm", "a b"):
            self.check(hall, ("put", word, A), BadName)
            self.check(hall, ("put", word, ("bad",)), BadName)
        for told in ("x", "new"):
            self.check(hall, ("put", told, ("bad",)), BadRule)
            self.check(hall, ("put", told, ("one", "ba")), BadLetters)
            self.check(hall, ("put", told, row()), BadSize, size=0)
            self.check(hall, ("put", told, ("times", A, True, None)), BadNumber)
            self.check(hall, ("put", told, name("X")), BadName)
            self.check(hall, ("put", told, name("q")), UnknownName, name="q")
            self.check(hall, ("put", told, row(name(told), name("q"))), UnknownName, name="q")
            self.check(hall, ("put", told, row(name("q"), ("bad",))), UnknownName, name="q")
            self.check(hall, ("put", told, name(told)), Ring, name=told)
            self.check(hall, ("put", told, row(A, ("not", ("times", name(told), 0, 0)))), Ring, name=told)
            six = row(*[A] * 6)
            self.check(hall, ("put", told, either(row(six, six, six, six, six, six), row(six, six, six))), BadSize, size=66)
            deep = name(told)
            for _ in range(9):
                deep = ("not", deep)
            self.check(hall, ("put", told, deep), TooDeep)
        self.check(hall, ("put", "x", name("y")), Ring, name="x")
        self.check(hall, ("put", "x", either(B, row(A, name("z")))), Ring, name="x")
        self.check(hall, ("put", "y", name("z")), Ring, name="y")
        self.check(hall, ("put", "w", name("w")), Ring, name="w")
        hall.put("z", A)
        hall.put("y", name("z"))
        self.assertEqual(hall.rule("y"), name("z"))

    def test_24_and_25_names(self):
        hall = Hall("ab")
        for k in range(24):
            hall.put(f"n{k}", A if k == 0 else name(f"n{k - 1}"))
        self.assertEqual(len(hall), 24)
        self.check(hall, ("put", "new", A), BadSize, size=25)
        self.check(hall, ("put", "new", name("q")), UnknownName, name="q")
        self.check(hall, ("put", "new", name("new")), Ring, name="new")
        self.check(hall, ("put", "new", self.great(43, 47)), BadSize, size=25)
        self.assertEqual(hall.put("n0", B), [(f"n{k}", "other", "a") for k in range(24)])
        self.assertEqual(hall.rename("n3", "new"), [("new", "new", None), ("n3", "gone", None)])
        hall.remove("n23")
        self.assertEqual(hall.put("n23", name("new")), [("n23", "new", None)])
        self.check(hall, ("put", "more", A), BadSize, size=25)

    def great(self, one, other):
        """The words of a whose lengths both divide: as many pairs are met as the product says."""
        return ("both", [self.lengths(one), self.lengths(other)])

    def lengths(self, many):
        """The words of a whose lengths so many divides."""
        parts = [("times", A, 8, 8)] * (many // 8)
        if many % 8:
            parts.append(("times", A, many % 8, many % 8))
        whole = parts[0] if len(parts) == 1 else row(*parts)
        return ("times", whole, 0, None)

    def test_machines_that_cannot_be_made(self):
        hall = Hall("a")
        self.check(hall, ("put", "x", self.great(45, 47)), TooMany)
        self.check(hall, ("put", "x", self.great(7, 9)), TooGreat)
        hall.put("x", self.lengths(4))
        hall.put("y", ("both", [name("x"), self.lengths(15)]))
        self.assertEqual(len(hall.machine("y")[0]), 60)
        # Of x alone each machine can be made; of those that use it some cannot.
        self.check(hall, ("put", "x", self.lengths(7)), TooGreat)
        self.check(hall, ("put", "x", self.lengths(47)), TooGreat)

    def test_the_error_that_is_due_first(self):
        # Behind a change of x the machine of y is TooMany, that of z TooGreat; which is told hangs on their order.
        for order, error in ((("y", "z"), TooMany), (("z", "y"), TooGreat)):
            hall = Hall("a")
            hall.put("x", A)
            for told in order:
                if told == "y":
                    hall.put("y", ("both", [name("x"), self.lengths(47)]))
                else:
                    hall.put("z", ("both", [name("x"), self.lengths(7)]))
            self.check(hall, ("put", "x", self.lengths(45)), error)
        # A name that was put earlier, but uses a later one, is made behind it.
        hall = Hall("a")
        hall.put("x", A)
        hall.put("z", A)
        hall.put("y", ("both", [name("x"), self.lengths(47)]))
        hall.put("z", row(("both", [name("x"), self.lengths(7)]), ("both", [name("y"), NONE])))
        self.check(hall, ("put", "x", self.lengths(45)), TooMany)
        # The machine of the name itself comes ahead of all.
        hall = Hall("a")
        hall.put("y", A)
        hall.put("x", A)
        hall.put("y", ("both", [name("x"), self.lengths(47)]))
        self.check(hall, ("put", "x", self.great(7, 9)), TooGreat)

    def test_remove(self):
        hall = self.some_hall()
        self.check(hall, ("remove", "q"), UnknownName, name="q")
        self.check(hall, ("remove", "Q"), UnknownName, name="Q")
        self.check(hall, ("remove", "x"), InUse, name="y")
        self.check(hall, ("remove", "y"), InUse, name="z")
        self.check(hall, ("remove", "w"), UnknownName, name="w")
        hall.put("u", either(B, name("x")))
        hall.put("y", B)
        self.check(hall, ("remove", "x"), InUse, name="u")
        hall.put("y", name("x"))
        self.check(hall, ("remove", "x"), InUse, name="y")
        hall.remove("z")
        hall.remove("y")
        hall.remove("u")
        self.assertEqual(hall.names(), ["x"])

    def test_rename(self):
        hall = self.some_hall()
        self.check(hall, ("rename", "q", "r"), UnknownName, name="q")
        self.check(hall, ("rename", "q", "X"), UnknownName, name="q")
        self.check(hall, ("rename", "q", "x"), UnknownName, name="q")
        self.check(hall, ("rename", "q", "q"), UnknownName, name="q")
        self.check(hall, ("rename", "x", "X"), BadName)
        self.check(hall, ("rename", "x", ""), BadName)
        self.check(hall, ("rename", "x", "abcdefghijklm"), BadName)
        self.check(hall, ("rename", "x", "y"), InUse, name="y")
        self.check(hall, ("rename", "y", "x"), InUse, name="x")
        hall.rename("x", "w")
        self.check(hall, ("rename", "x", "v"), UnknownName, name="x")
        self.assertEqual(hall.rule("y"), row(name("w"), B))

    def test_undo_and_redo(self):
        hall = Hall("ab")
        self.check(hall, ("undo",), NothingToUndo)
        self.check(hall, ("redo",), NothingToRedo)
        hall.put("x", A)
        self.check(hall, ("redo",), NothingToRedo)
        hall.undo()
        self.check(hall, ("undo",), NothingToUndo)
        self.assertTrue(hall.can_redo)
        hall.redo()
        self.check(hall, ("redo",), NothingToRedo)
        hall.undo()
        hall.put("y", A)
        self.check(hall, ("redo",), NothingToRedo)

    def test_unknown_names_are_told_ahead_of_all(self):
        hall = self.some_hall()
        for call in (hall.rule, hall.machine, hall.written_out, hall.users):
            for told in ("q", "", "X", "w"):
                with self.assertRaises(UnknownName) as caught:
                    call(told)
                self.assertEqual(caught.exception.name, told)

    def test_refused_deeds_leave_what_can_be_redone(self):
        hall = self.some_hall()
        self.assertTrue(hall.can_redo)
        self.check(hall, ("put", "w", name("w")), Ring)
        self.assertTrue(hall.can_redo)
        self.assertEqual(hall.redo(), [("w", "new", None)])


class TogetherTest(unittest.TestCase):
    DEEDS = [
        ("put", "x", A), ("put", "y", row(name("x"), name("x"))), ("put", "x", B), ("undo",), ("undo",), ("redo",),
        ("rename", "x", "z"), ("remove", "y"), ("put", "y", either(name("z"), B)), ("undo",), ("redo",),
    ]

    def test_all_at_once(self):
        alone, together = Hall("ab"), Hall("ab")
        for deed in self.DEEDS:
            alone.do_all([deed])
        deeds = copy.deepcopy(self.DEEDS)
        self.assertEqual(together.do_all(deeds), [("z", "new", None), ("y", "new", None)])
        self.assertEqual(deeds, self.DEEDS)
        self.assertEqual((state_of(together), ends_of(together)), (state_of(alone), ends_of(alone)))
        self.assertEqual(together.journal(), self.DEEDS)
        self.assertEqual(together.do_all([]), [])
        # Each deed is taken back by itself.
        self.assertEqual(together.undo(), [("y", "gone", None)])

    def test_a_wrong_deed_at_each_place(self):
        for first in (False, True):
            for place in range(len(self.DEEDS) + 1):
                for wrong, error in ((("put", "q", name("q")), Ring), (("remove", "none"), UnknownName),
                                     (("rename", "none", "x"), UnknownName), (("put", "Q", A), BadName)):
                    hall = Hall("ab")
                    if first:
                        hall.do_all([("put", "u", A), ("put", "v", name("u")), ("put", "v", B), ("undo",)])
                    before, ends = state_of(hall), ends_of(hall)
                    deeds = self.DEEDS[:place] + [wrong] + self.DEEDS[place:]
                    for call in (hall.do_all, hall.what_if):
                        with self.assertRaises(error):
                            call(deeds)
                        self.assertEqual((state_of(hall), ends_of(hall)), (before, ends))

    def test_undo_and_redo_beyond_the_ends(self):
        hall = Hall("ab")
        hall.put("x", A)
        before, ends = state_of(hall), ends_of(hall)
        with self.assertRaises(NothingToUndo):
            hall.do_all([("undo",), ("undo",)])
        with self.assertRaises(NothingToRedo):
            hall.do_all([("undo",), ("put", "y", A), ("redo",)])
        self.assertEqual((state_of(hall), ends_of(hall)), (before, ends))
        self.assertEqual(hall.do_all([("undo",), ("redo",), ("undo",), ("redo",)]), [])
        self.assertEqual(len(hall.journal()), 5)

    def test_what_if(self):
        for seed in range(40):
            rng = random.Random(2200 + seed)
            hall = Hall("ab")
            for _ in range(8):
                try:
                    hall.do_all([some_deed(rng, "ab", hall.names())])
                except HallError:
                    pass
            deeds = [some_deed(rng, "ab", hall.names()) for _ in range(rng.randint(0, 4))]
            before, ends = state_of(hall), ends_of(hall)
            other = copy.deepcopy(hall)
            try:
                told = hall.what_if(deeds)
            except HallError as error:
                with self.assertRaises(type(error)):
                    other.do_all(deeds)
            else:
                self.assertEqual(other.do_all(deeds), told)
            self.assertEqual((state_of(hall), ends_of(hall)), (before, ends))

    def test_what_is_changed_together(self):
        hall = Hall("ab")
        hall.put("x", A)
        self.assertEqual(hall.what_if([("put", "x", B), ("put", "x", A)]), [])
        self.assertEqual(hall.what_if([("put", "x", B)]), [("x", "other", "a")])
        self.assertEqual(hall.what_if([("remove", "x"), ("put", "x", AB)]), [("x", "other", "b")])
        self.assertEqual(hall.what_if([("put", "y", name("x")), ("remove", "y")]), [])
        self.assertEqual(hall.what_if([("rename", "x", "y"), ("put", "x", A)]), [("y", "new", None)])
        self.assertEqual(hall.what_if([("undo",)]), [("x", "gone", None)])
        self.assertEqual(hall.what_if([]), [])
        self.assertEqual(hall.journal(), [("put", "x", A)])


class JournalTest(unittest.TestCase):
    def test_wrong_entries(self):
        deeds = TogetherTest.DEEDS
        for place in range(len(deeds) + 1):
            for wrong in (("put", "q", name("q")), ("remove", "none"), ("put", "q", ("bad",)), ("rename", "q", "q")):
                with self.assertRaises(BadEntry) as caught:
                    replay("ab", deeds[:place] + [wrong] + deeds[place:])
                self.assertEqual(caught.exception.place, place)
        for journal, place in (([("undo",)], 0), ([("put", "x", A), ("redo",)], 1),
                               ([("put", "x", A), ("undo",), ("undo",), ("bad",)], 2)):
            with self.assertRaises(BadEntry) as caught:
                replay("ab", journal)
            self.assertEqual(caught.exception.place, place)

    def test_back_and_forth(self):
        hall = Hall("ab")
        hall.do_all(TogetherTest.DEEDS)
        hall.undo()
        hall.undo()
        journal = hall.journal()
        kept = copy.deepcopy(journal)
        other = replay("ab", journal)
        self.assertEqual(journal, kept)
        self.assertEqual((state_of(other), ends_of(other)), (state_of(hall), ends_of(hall)))
        self.assertEqual(other.redo(), hall.redo())
        self.assertEqual(other.put("new", B), hall.put("new", B))
        self.assertEqual(state_of(other), state_of(hall))
        self.assertEqual(replay("ab", []).names(), [])


class WrittenTest(unittest.TestCase):
    def test_made_up_halls(self):
        seen = {}
        for seed in range(60):
            rng = random.Random(2300 + seed)
            hall = Hall("ab")
            for _ in range(12):
                try:
                    hall.do_all([some_deed(rng, "ab", hall.names())])
                except HallError:
                    pass
            rules = {told: hall.rule(told) for told in hall.names()}
            for told in hall.names():
                whole = written(rules, rules[told])
                wanted = "size" if size_of(whole) > 60 else "deep" if depth_of(whole) > 8 else "whole"
                seen[wanted] = seen.get(wanted, 0) + 1
                if wanted == "whole":
                    self.assertEqual(hall.written_out(told), whole)
                    self.assertEqual(machine_of("ab", whole), hall.machine(told))
                else:
                    with self.assertRaises(BadSize if wanted == "size" else TooDeep):
                        hall.written_out(told)
        self.assertGreater(seen["whole"], 60)

    def test_60_and_61_parts(self):
        hall = Hall("ab")
        hall.put("six", row(*[A] * 5))
        for more in (0, 1):
            hall.put("x", either(*[either(*[name("six")] * 3)] * 2, *[name("six")] * 3))
            size = 1 + 2 * (1 + 18) + 18
            hall.put("y", row(name("x"), *[A] * (60 - size - 1 + more)))
            if more:
                with self.assertRaises(BadSize) as caught:
                    hall.written_out("y")
                self.assertEqual(caught.exception.size, 61)
            else:
                self.assertEqual(size_of(hall.written_out("y")), 60)

    def test_depth_8_and_9(self):
        hall = Hall("ab")
        hall.put("x", ("not", ("not", ("not", row(A)))))
        hall.put("y", ("not", ("not", ("not", ("not", name("x"))))))
        self.assertEqual(depth_of(hall.written_out("y")), 8)
        hall.put("z", either(name("y")))
        with self.assertRaises(TooDeep):
            hall.written_out("z")
        self.assertEqual(hall.machine("z"), hall.machine("y"))
        # A name that leads to a name adds no depth.
        hall.put("w", name("y"))
        self.assertEqual(hall.written_out("w"), hall.written_out("y"))
        # Too many parts are told ahead of what is too deep.
        hall.put("v", row(*[name("z")] * 6))
        with self.assertRaises(BadSize) as caught:
            hall.written_out("v")
        self.assertEqual(caught.exception.size, 1 + 6 * 10)

    def test_very_many_parts(self):
        hall = Hall("ab")
        hall.put("n0", EMPTY)
        for k in range(1, 24):
            hall.put(f"n{k}", either(*[name(f"n{k - 1}")] * 6))
        with self.assertRaises(BadSize) as caught:
            hall.written_out("n23")
        self.assertEqual(caught.exception.size, (6 ** 24 - 1) // 5)
        self.assertEqual(hall.machine("n23"), machine_of("ab", EMPTY))

    def test_rules_of_machines(self):
        # The machine of a name under which the rule of a machine is put.
        hall = Hall("ab")
        for machine in (cycle(3, 1, letters="ab"), ([[1, 0], [2, 1], [0, 0]], [False, True, True]), ([[0, 0]], [False])):
            hall.put("x", rule_of("ab", machine))
            self.assertEqual(hall.machine("x"), least("ab", machine))


class CopiesTest(unittest.TestCase):
    def test_what_was_handed_in_is_changed(self):
        hall = Hall("ab")
        inner = [A, B]
        rule = ("row", [("either", inner), A])
        deeds = [("put", "y", ("row", inner)), ("put", "z", name("y"))]
        hall.put("x", rule)
        hall.do_all(deeds)
        before, ends = state_of(hall), ends_of(hall)
        inner.append(("bad",))
        rule[1].clear()
        deeds.clear()
        self.assertEqual((state_of(hall), ends_of(hall)), (before, ends))
        journal = hall.journal()
        other = replay("ab", journal)
        for found in lists_in(journal):
            found.clear()
        self.assertEqual(state_of(other), before)

    def test_what_was_returned_is_changed(self):
        hall = Hall("ab")
        hall.do_all([("put", "x", row(A, either(B, A))), ("put", "y", name("x")), ("put", "y", row(name("x"), B)), ("undo",)])
        before, ends = copy.deepcopy(state_of(hall)), ends_of(hall)
        changes = hall.what_if([("redo",)])
        for told in [state_of(hall)[0], hall.journal(), hall.names(), changes]:
            for found in lists_in(told):
                found.append(("bad",))
                found.reverse()
        self.assertEqual((state_of(hall), ends_of(hall)), (before, ends))
        told = [state_of(hall)[0], state_of(hall)[4]]
        marks = [id(found) for found in lists_in(told)]
        self.assertEqual(len(marks), len(set(marks)))

    def test_two_halls_by_turns(self):
        for seed in range(10):
            rng = random.Random(2400 + seed)
            halls = [Hall("ab"), Hall("ab")]
            journals = [[], []]
            for _ in range(20):
                for hall, journal in zip(halls, journals):
                    deed = some_deed(rng, "ab", hall.names())
                    try:
                        hall.do_all([deed])
                        journal.append(deed)
                    except HallError:
                        pass
            for hall, journal in zip(halls, journals):
                self.assertEqual(hall.journal(), journal)
                self.assertEqual(state_of(replay("ab", journal)), state_of(hall))


if __name__ == "__main__":
    unittest.main()
