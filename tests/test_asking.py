import copy
import random
import unittest

from helpers import all_words, cycle, lists_in, some_machine, some_machines, taken

from hallofwords.asking import Learner, relearned
from hallofwords.deciding import is_same, parting_word
from hallofwords.errors import (
    BadAnswer, BadEntry, BadLetters, Contradiction, HallError, NoQuestion, NothingToUndo, TooGreat
)
from hallofwords.learning import are_unlike, fits
from hallofwords.leastness import is_leastness_paper
from hallofwords.machines import least, run
from hallofwords.merging import merged_fit, sample_of

MANY = 20


class SlowLearner:
    """Straight from points 99 to 103: behind each answer all is gone through."""

    def __init__(self, letters):
        self.letters = letters
        self.told, self.rows, self.columns, self.hand, self.log = {}, [""], [""], None, []
        self.question = self.go_on()

    def marks(self, word):
        return [self.told[word + column] for column in self.columns]

    def through_table(self):
        for r in self.rows:
            for c in self.columns:
                if r + c not in self.told:
                    return r + c
        place = 0
        while place < len(self.rows):
            for x in self.letters:
                word = self.rows[place] + x
                for c in self.columns:
                    if word + c not in self.told:
                        return word + c
                if self.marks(word) not in [self.marks(row) for row in self.rows]:
                    self.rows.append(word)
            place += 1
        return None

    def machine(self):
        rows = [self.marks(row) for row in self.rows]
        return ([[rows.index(self.marks(row + x)) for x in self.letters] for row in self.rows],
                [self.told[row] for row in self.rows])

    def go_on(self):
        while True:
            if self.hand is None:
                word = self.through_table()
                if word is not None:
                    return ("word", word)
                machine = self.machine()
                wrong = [word for word in self.told if taken(self.letters, machine, word) != self.told[word]]
                if not wrong:
                    return ("same", least(self.letters, machine))
                first = min(wrong, key=lambda word: (len(word), [self.letters.index(sign) for sign in word]))
                self.hand = (first, 0, len(first))
            w, low, high = self.hand
            while high - low > 1:
                middle = (low + high) // 2
                s = self.rows[run(self.letters, self.machine(), w[:middle])] + w[middle:]
                if s not in self.told:
                    self.hand = (w, low, high)
                    return ("word", s)
                if self.told[s] == self.told[w]:
                    low = middle
                else:
                    high = middle
            self.columns.append(w[high:])
            self.hand = None

    def answer(self, value):
        kind, asked = self.question
        self.log.append((kind, asked, value))
        if kind == "word":
            self.told[asked] = value
        elif value is None:
            self.question = ("done", asked)
            return
        else:
            self.told[value] = not taken(self.letters, asked, value)
        self.question = self.go_on()


def told_of(log, letters):
    """What the answers of a log tell: the words of True, and those of False."""
    yes, no = [], []
    for kind, asked, value in log:
        if kind == "word":
            (yes if value else no).append(asked)
        elif value is not None:
            (no if taken(letters, asked, value) else yes).append(value)
    return yes, no


class Teacher:
    """Answers by a machine; where a machine is asked, by the first word that parts, or by a longer one."""

    def __init__(self, letters, machine, rng=None):
        self.letters, self.given, self.rng = letters, machine, rng

    def answer(self, question):
        kind, asked = question
        if kind == "word":
            return taken(self.letters, self.given, asked)
        if is_same(self.letters, asked, self.given):
            return None
        if self.rng is not None:
            for _ in range(50):
                word = "".join(self.rng.choice(self.letters) for _ in range(self.rng.choice([3, 9, 30, 200])))
                if taken(self.letters, asked, word) != taken(self.letters, self.given, word):
                    return word
        return parting_word(self.letters, asked, self.given)


def taught(letters, machine, rng=None):
    learner = Learner(letters)
    teacher = Teacher(letters, machine, rng)
    while learner.question()[0] != "done":
        learner.answer(teacher.answer(learner.question()))
    return learner


def state_of(learner):
    return learner.question(), learner.paper(), learner.log()


def some_cases(seed, number, most=9):
    rng = random.Random(seed)
    for letters, machine in some_machines(seed, number, most=most, letters=("a", "ab", "ba", "abc", "abcdef")):
        yield letters, machine, rng.choice([None, rng])


class QuestionsTest(unittest.TestCase):
    def test_one_by_one(self):
        hands = 0
        for letters, machine, rng in some_cases(1101, 120):
            learner, slow, teacher = Learner(letters), SlowLearner(letters), Teacher(letters, machine, rng)
            while slow.question[0] != "done":
                self.assertEqual(learner.question(), slow.question)
                self.assertEqual(learner.log(), slow.log)
                hands += slow.hand is not None
                value = teacher.answer(slow.question)
                self.assertIsNone(learner.answer(value))
                slow.answer(value)
            self.assertEqual(state_of(learner)[::2], (slow.question, slow.log))
        self.assertGreater(hands, 200)

    def test_answers_of_no_machine(self):
        # Answers by chance are those of no machine with few states; in the end there are too many rows.
        rng = random.Random(1102)
        for _ in range(60):
            letters = rng.choice(["a", "ab", "abc"])
            learner, slow = Learner(letters), SlowLearner(letters)
            for _ in range(150):
                self.assertEqual(learner.question(), slow.question)
                kind, asked = slow.question
                if kind == "word":
                    value = rng.random() < 0.3
                else:
                    value = next(word for word in all_words(letters, 3) + [letters[0] * many for many in range(60)]
                                 if word not in slow.told)
                before = state_of(learner)
                slow.answer(value)
                if len(slow.rows) > MANY:
                    with self.assertRaises(TooGreat):
                        learner.answer(value)
                    self.assertEqual(state_of(learner), before)
                    break
                learner.answer(value)

    def test_first_questions(self):
        learner = Learner("ba")
        asked = []
        for value in (False, True, False, False, True, None):
            asked.append(learner.question())
            learner.answer(value)
        self.assertEqual(asked, [
            ("word", ""), ("word", "b"), ("word", "a"), ("word", "bb"), ("word", "ba"),
            ("same", ([[1, 0], [0, 1]], [False, True])),
        ])
        self.assertEqual(learner.question(), ("done", ([[1, 0], [0, 1]], [False, True])))

    def test_letters(self):
        for letters in ("", "A", "aa", "abcdefg"):
            with self.assertRaises(BadLetters):
                Learner(letters)
            with self.assertRaises(BadLetters):
                relearned(letters, [("word", "b", 3)])


class LearningTest(unittest.TestCase):
    def test_what_is_promised(self):
        for letters, machine, rng in some_cases(1111, 120, most=12):
            m = least(letters, machine)
            learner, teacher = Learner(letters), Teacher(letters, m, rng)
            asked = []
            while learner.question()[0] != "done":
                kind, thing = learner.question()
                asked.append((kind, thing))
                if kind == "same":
                    yes, no = told_of(learner.log(), letters)
                    self.assertTrue(fits(letters, thing, yes, no))
                    self.assertEqual(least(letters, thing), thing)
                    access, partings = learner.paper()
                    self.assertEqual([run(letters, thing, row) for row in access], list(range(len(thing[0]))))
                    self.assertTrue(is_leastness_paper(letters, thing, access, partings))
                    self.assertTrue(are_unlike(letters, yes, no, access))
                    self.assertEqual(partings[0], "")
                else:
                    self.assertIsNone(learner.paper())
                learner.answer(teacher.answer((kind, thing)))
            self.assertEqual(learner.question(), ("done", m))
            self.check_numbers(letters, m, learner.log(), asked)

    def check_numbers(self, letters, m, log, asked):
        n, k = len(m[0]), len(letters)
        words = [thing for kind, thing in asked if kind == "word"]
        self.assertEqual(len(words), len(set(words)))
        longest = max([len(value) for kind, _, value in log if kind == "same" and value is not None] + [0])
        self.assertLessEqual(len(asked) - len(words), n)
        self.assertLessEqual(len(words), n * (k * n + 1) + (n - 1) * (n + longest).bit_length())
        self.assertLessEqual(max(map(len, words)), n + longest)

    def test_the_paper_when_done(self):
        for letters, machine, rng in some_cases(1112, 40):
            learner = taught(letters, machine, rng)
            access, partings = learner.paper()
            self.assertTrue(is_leastness_paper(letters, learner.question()[1], access, partings))
            learner.undo()
            self.assertEqual(learner.paper(), (access, partings))

    def test_twenty_states(self):
        rng = random.Random(1113)
        for letters in ("a", "ab", "abcdef"):
            machine = cycle(20, 3, 7, 12, letters=letters)
            self.assertEqual(taught(letters, machine).question(), ("done", least(letters, machine)))
            self.assertEqual(taught(letters, machine, rng).question(), ("done", least(letters, machine)))
        for many in (20, 20, 21, 21, 24):
            while True:
                table = [[rng.randrange(many), rng.randrange(many)] for _ in range(many)]
                machine = least("ab", (table, [rng.random() < 0.5 for _ in range(many)]))
                if len(machine[0]) == many:
                    break
            if many <= 20:
                self.assertEqual(taught("ab", machine, rng).question(), ("done", machine))
            else:
                with self.assertRaises(TooGreat):
                    taught("ab", machine, rng)

    def test_merging_makes_the_same(self):
        for letters, machine, rng in some_cases(1114, 30, most=6):
            found = taught(letters, machine, rng).question()[1]
            self.assertEqual(merged_fit(letters, *sample_of(letters, machine)), found)


class AnswersTest(unittest.TestCase):
    def check_refused(self, learner, value, error, word=None):
        before = state_of(learner)
        with self.assertRaises(error) as caught:
            learner.answer(value)
        self.assertIs(type(caught.exception), error)
        if word is not None:
            self.assertEqual(caught.exception.word, word)
        self.assertEqual(state_of(learner), before)

    def test_where_a_word_is_asked(self):
        learner = Learner("ab")
        for value in (None, 0, 1, 2, "", "a", "True", [], [True], (), {}, 10 ** 30):
            self.check_refused(learner, value, BadAnswer)
        learner.answer(True)
        for value in (None, 0, 1, "", "a"):
            self.check_refused(learner, value, BadAnswer)
        self.assertEqual(learner.log(), [("word", "", True)])

    def test_where_a_machine_is_asked(self):
        learner = Learner("ab")
        for _ in range(3):
            learner.answer(False)
        self.assertEqual(learner.question(), ("same", ([[0, 0]], [False])))
        for value in (True, False, 0, 1, [], ["a"], ("a",), {}, "c", "abc", "aB", "a ", "a" * 201, "c" * 200):
            self.check_refused(learner, value, BadAnswer)
        for value in ("", "a", "b"):
            self.check_refused(learner, value, Contradiction, value)
        learner.answer("a" * 200)
        self.assertEqual(learner.log()[-1], ("same", ([[0, 0]], [False]), "a" * 200))
        self.assertEqual(learner.question()[0], "word")

    def test_behind_done(self):
        learner = taught("ab", cycle(3, 1, letters="ab"))
        for value in (None, True, "a", "c", 7, "a" * 201):
            self.check_refused(learner, value, NoQuestion)

    def test_a_word_that_is_not_answered_otherwise_is_told_so_all_the_same(self):
        # Whatever the teacher says, the word is told True if the machine does not take it.
        learner = Learner("a")
        for value in (False, False):
            learner.answer(value)
        learner.answer("aaa")
        yes, no = told_of(learner.log(), "a")
        self.assertEqual((yes, no), (["aaa"], ["", "a"]))

    def test_twenty_rows_and_twenty_one(self):
        # One row for each number of signs: the word with so many of them alone belongs to the words.
        for many in (20, 21):
            machine = ([[min(k + 1, many - 1)] for k in range(many)], [k == many - 2 for k in range(many)])
            if many == 20:
                learner = taught("a", machine)
                self.assertEqual(len(learner.question()[1][0]), 20)
                self.assertEqual(len(learner.paper()[0]), 20)
                continue
            learner, teacher = Learner("a"), Teacher("a", machine)
            with self.assertRaises(TooGreat):
                while True:
                    before = state_of(learner)
                    value = teacher.answer(learner.question())
                    learner.answer(value)
            self.check_refused(learner, value, TooGreat)
            self.assertEqual(state_of(learner), before)
            # It goes on as if the answer had not been tried.
            learner.undo()
            self.assertEqual(learner.log(), before[2][:-1])


class UndoTest(unittest.TestCase):
    def test_behind_each_answer(self):
        for letters, machine, rng in some_cases(1121, 25, most=7):
            learner, teacher = Learner(letters), Teacher(letters, machine, rng)
            states = []
            while learner.question()[0] != "done":
                states.append(state_of(learner))
                learner.answer(teacher.answer(learner.question()))
            end = state_of(learner)
            while states:
                self.assertIsNone(learner.undo())
                self.assertEqual(state_of(learner), states.pop())
            with self.assertRaises(NothingToUndo):
                learner.undo()
            self.assertEqual(learner.log(), [])
            for _, _, value in end[2]:
                learner.answer(value)
            self.assertEqual(state_of(learner), end)

    def test_other_answers_behind_it(self):
        for letters, machine, rng in some_cases(1122, 25, most=6):
            learner = taught(letters, machine, rng)
            rng = rng or random.Random(5)
            for _ in range(rng.randint(1, len(learner.log()))):
                learner.undo()
            other = some_machine(rng, letters, 6)
            slow = SlowLearner(letters)
            for _, _, value in learner.log():
                slow.answer(value)
            for _ in range(20):
                self.assertEqual(learner.question(), slow.question)
                if slow.question[0] != "word":
                    break
                value = taken(letters, other, slow.question[1])
                slow.answer(value)
                learner.answer(value)

    def test_nothing_to_undo(self):
        with self.assertRaises(NothingToUndo):
            Learner("a").undo()


class LogTest(unittest.TestCase):
    def test_replayed(self):
        for letters, machine, rng in some_cases(1131, 30):
            learner = taught(letters, machine, rng)
            log = learner.log()
            for cut in (0, len(log) // 2, len(log) - 1, len(log)):
                kept = copy.deepcopy(log)
                again = relearned(letters, kept[:cut])
                self.assertEqual(again.log(), log[:cut])
                self.assertEqual(kept, log)
            again = relearned(letters, log)
            self.assertEqual(state_of(again), state_of(learner))
            again.undo()
            learner.undo()
            self.assertEqual(state_of(again), state_of(learner))

    def test_wrong_at_one_place(self):
        for letters, machine, rng in some_cases(1132, 12, most=5):
            log = taught(letters, machine, rng).log()
            for place, (kind, asked, value) in enumerate(log):
                other = ("same" if kind == "word" else "word", asked, value)
                bad = [other, ("done", asked, value), (kind, asked, 1), (kind, asked, 0), (kind, asked, [])]
                if kind == "word":
                    bad += [(kind, asked + letters[0], value), ("word", "", value)] if asked else [(kind, "a", value)]
                    bad += [(kind, asked, None), (kind, asked, "a")]
                else:
                    table, ends = asked
                    bad += [(kind, (table, [not end for end in ends]), value), (kind, "a", value)]
                    bad += [(kind, asked, True), (kind, asked, ""), (kind, asked, "A")]
                for entry in bad:
                    with self.assertRaises(BadEntry) as caught:
                        relearned(letters, log[:place] + [entry] + log[place + 1:])
                    self.assertEqual(caught.exception.place, place)

    def test_behind_done(self):
        log = taught("a", cycle(2, 1)).log()
        machine = log[-1][1]
        for value in (None, "aaaaa", True):
            with self.assertRaises(BadEntry) as caught:
                relearned("a", log + [("done", machine, value)])
            self.assertEqual(caught.exception.place, len(log))
        self.assertEqual(relearned("a", []).question(), ("word", ""))

    def test_too_great_in_a_log(self):
        machine = ([[min(k + 1, 20)] for k in range(21)], [k == 19 for k in range(21)])
        learner, teacher = Learner("a"), Teacher("a", machine)
        try:
            while True:
                value = teacher.answer(learner.question())
                learner.answer(value)
        except TooGreat:
            log = learner.log() + [learner.question() + (value,)]
        with self.assertRaises(BadEntry) as caught:
            relearned("a", log)
        self.assertEqual(caught.exception.place, len(log) - 1)


class CopiesTest(unittest.TestCase):
    def test_two_learners_by_turns(self):
        one, other = Learner("ab"), Learner("ab")
        teachers = [Teacher("ab", cycle(4, 1, letters="ab")), Teacher("ab", cycle(3, 0, 2, letters="ab"))]
        alone = [taught("ab", teacher.given) for teacher in teachers]
        for _ in range(200):
            for learner, teacher in zip((one, other), teachers):
                if learner.question()[0] != "done":
                    learner.answer(teacher.answer(learner.question()))
        self.assertEqual([state_of(one), state_of(other)], [state_of(learner) for learner in alone])

    def test_what_was_returned_is_changed(self):
        learner, teacher = Learner("ab"), Teacher("ab", cycle(4, 1, 2, letters="ab"))
        while True:
            before = copy.deepcopy(state_of(learner))
            for told in (learner.question(), learner.paper(), learner.log()):
                for found in lists_in(told):
                    found.append(0)
                    found.reverse()
            self.assertEqual(state_of(learner), before)
            if learner.question()[0] == "done":
                break
            learner.answer(teacher.answer(learner.question()))
        told = [state_of(learner), state_of(learner)]
        marks = [id(found) for found in lists_in(told)]
        self.assertEqual(len(marks), len(set(marks)))

    def test_a_log_that_was_handed_in_is_changed(self):
        log = taught("ab", cycle(4, 1, 2, letters="ab")).log()
        learner = relearned("ab", log)
        before = copy.deepcopy(state_of(learner))
        for found in lists_in(log):
            found.append(0)
        self.assertEqual(state_of(learner), before)
        learner.undo()
        learner.answer(None)
        self.assertEqual(state_of(learner), before)

    def test_errors_stand_under_hall_error(self):
        for error in (BadAnswer, NoQuestion, Contradiction, TooGreat, BadEntry, NothingToUndo):
            self.assertTrue(issubclass(error, HallError))


if __name__ == "__main__":
    unittest.main()
