import copy
import random
import unittest

from helpers import all_words
from turning import answers, some_turners

from hallofwords.answers import one_answer
from hallofwords.errors import BadSize, NotOne, NoWord
from hallofwords.scribes import Scribe
from hallofwords.turners import one_move, outs, same_of

EVERY = ([[0, 0]], [True])
# Each sign is told behind the next one; whatever is read, "a" is written ahead of it.
LATE = ([[[("a", 1)], [("a", 2)]], [[("a", 1)], [("a", 2)]], [[("b", 1)], [("b", 2)]]], [["a"], ["a"], ["b"]])


def cut(rng, word):
    places = sorted(rng.choices(range(len(word) + 1), k=rng.randrange(4)))
    return [word[begin:end] for begin, end in zip([0] + places, places + [len(word)])]


def common(words):
    """The longest word with which all words begin."""
    length = 0
    while all(len(word) > length and word[length] == words[0][length] for word in words):
        length += 1
    return words[0][:length]


def some_scribes(seed, number):
    for letters, turner in some_turners(seed, number, states=4, moves=(0, 1, 1, 1, 2), ends=(0, 0, 1, 1)):
        if one_answer(letters, turner)[0]:
            yield letters, turner


class MakingTest(unittest.TestCase):
    def test_errors(self):
        def turner(many, listed, words):
            return [[list(listed)] for _ in range(many)], [list(words) for _ in range(many)]

        for told, error in (
            (turner(8, [("a", 0)], [""]), None),
            (turner(9, [("a", 0)], [""]), BadSize),
            (turner(9, [("a", 0)], ["", "a"]), BadSize),
            (turner(9, [("a", 0)], []), BadSize),
            (turner(36, [("a", 0)], []), BadSize),
            (turner(8, [("a", 0)], ["", "a"]), NotOne),
            (turner(8, [("a", 0), ("", 0)], [""]), NotOne),
            (turner(8, [("a", 0)], []), NoWord),
            (turner(8, [("a", 0), ("", 0)], []), NoWord),
            (([[[("a", 0)]], [[("a", 1)]]], [[], [""]]), NoWord),
        ):
            if error is None:
                self.assertEqual(Scribe("a", told).told(), "")
                continue
            with self.assertRaises(error) as caught:
                Scribe("a", told)
            if error is BadSize:
                self.assertEqual(caught.exception.size, len(told[0]))
        with self.assertRaises(NotOne):
            Scribe("ab", one_move("ab"))

    def test_made_up_turners(self):
        seen = {}
        for letters, turner in some_turners(661, 300, states=3):
            is_one, _ = one_answer(letters, turner)
            some = any(outs(letters, turner, word) for word in all_words(letters, 3))
            error = None if is_one and some else NoWord if is_one else NotOne
            seen[error] = seen.get(error, 0) + 1
            if error is None:
                Scribe(letters, turner)
            else:
                with self.assertRaises(error):
                    Scribe(letters, turner)
        self.assertGreater(min(seen.values()), 20)


class WritingTest(unittest.TestCase):
    def test_words_cut_in_several_ways(self):
        rng = random.Random(662)
        many = 0
        for letters, turner in some_scribes(663, 300):
            words = [word for word in all_words(letters, 5) if answers(letters, turner, word)]
            if not words:
                continue
            scribe = Scribe(letters, turner)
            for word in rng.sample(words, min(4, len(words))):
                written = scribe.told()
                read = ""
                for piece in cut(rng, word):
                    more = scribe.feed(piece)
                    read += piece
                    self.assertEqual((scribe.heard(), scribe.told()), (read, written + more))
                    written += more
                self.assertEqual([written + scribe.finish()], answers(letters, turner, word))
                self.assertEqual(scribe.heard(), "")
                many += 1
        self.assertGreater(many, 300)

    def test_what_is_sure(self):
        """What is written is what all answers begin with that go on from what is read."""
        for letters, turner in some_scribes(664, 250):
            most = 6 if len(letters) == 1 else 4
            told = {word: answers(letters, turner, word) for word in all_words(letters, most + 4 if letters == "a" else most + 2)}
            if not any(told.values()):
                continue
            for read in all_words(letters, 2):
                behind = [found[0] for word, found in told.items() if found and word.startswith(read)]
                scribe = Scribe(letters, turner)
                try:
                    scribe.feed(read)
                except NoWord:
                    self.assertEqual(behind, [])
                    continue
                if behind:
                    self.assertTrue(common(behind).startswith(scribe.told()), (turner, read))
                    # All answers that are not gone through here are those of longer words.
                    if len(turner[0]) <= 2:
                        self.assertEqual(scribe.told(), common(behind), (turner, read))

    def test_something_ahead_of_the_first_sign(self):
        scribe = Scribe("ab", LATE)
        self.assertEqual((scribe.told(), scribe.heard()), ("a", ""))
        self.assertEqual((scribe.feed("b"), scribe.told()), ("b", "ab"))
        self.assertEqual((scribe.feed("ab"), scribe.told(), scribe.heard()), ("ab", "abab", "bab"))
        self.assertEqual(scribe.finish(), "")
        self.assertEqual((scribe.told(), scribe.heard()), ("a", ""))
        whole = Scribe("ab", ([[[], [("b", 1)]], [[("aa", 1)], []]], [[], ["ab"]]))
        self.assertEqual(whole.told(), "ba")
        self.assertEqual(whole.feed("b"), "")
        self.assertEqual((whole.feed("a"), whole.feed("aa"), whole.finish()), ("aa", "aaaa", "b"))
        only = Scribe("ab", ([[[("ab", 1)], []], [[("", 1)], []]], [[], ["ba"]]))
        self.assertEqual((only.told(), only.feed("aa"), only.finish()), ("abba", "", ""))

    def test_written_late(self):
        """What is read becomes sure with its last sign alone."""
        turner = ([[[("a", 1), ("b", 2)], []], [[("a", 1)], [("", 3)]], [[("b", 2)], [("b", 4)]], [[], []], [[], []]],
                  [[], [], [""], [""], []])
        self.assertIs(one_answer("ab", turner)[0], True)
        scribe = Scribe("ab", turner)
        self.assertEqual((scribe.told(), scribe.feed("a" * 300), scribe.feed("b"), scribe.finish()), ("", "", "a" * 300, ""))
        self.assertEqual((scribe.feed("a" * 300), scribe.finish()), ("", "b" * 300))

    def test_turner_of_a_machine(self):
        scribe = Scribe("ab", same_of("ab", EVERY))
        self.assertEqual([scribe.feed(piece) for piece in ("", "a", "bba", "")], ["", "a", "bba", ""])
        self.assertEqual((scribe.told(), scribe.heard(), scribe.finish(), scribe.told()), ("abba", "abba", "", ""))


class RefusedTest(unittest.TestCase):
    def test_400_and_401_signs(self):
        scribe = Scribe("ab", LATE)
        scribe.feed("ab" * 199 + "a")
        for piece, size in (("bb", 401), ("a" * 4000, 4399)):
            with self.assertRaises(BadSize) as caught:
                scribe.feed(piece)
            self.assertEqual(caught.exception.size, size)
            self.assertEqual((len(scribe.heard()), len(scribe.told())), (399, 400))
        self.assertEqual(scribe.feed("b"), "b")
        self.assertEqual(scribe.feed(""), "")
        with self.assertRaises(BadSize) as caught:
            scribe.feed("b")
        self.assertEqual(caught.exception.size, 401)
        self.assertEqual(scribe.finish(), "")
        # The number begins anew behind a finished word.
        self.assertEqual(len(scribe.feed("a" * 400)), 400)
        self.assertEqual(len(scribe.heard()), 400)

    def test_too_long_ahead_of_no_word(self):
        scribe = Scribe("ab", ([[[("a", 0)], []]], [[""]]))
        with self.assertRaises(BadSize) as caught:
            scribe.feed("b" * 401)
        self.assertEqual(caught.exception.size, 401)
        with self.assertRaises(NoWord):
            scribe.feed("b" * 400)

    def test_nothing_changed_by_a_refused_piece(self):
        turner = ([[[("a", 0)], [("b", 1)]], [[("b", 1)], [("", 2)]], [[("a", 2)], []]], [[], [""], []])
        scribe, other = Scribe("ab", turner), Scribe("ab", turner)
        for piece, refused in (("aab", "ab"), ("", "aabb"), ("aa", "b")):
            self.assertEqual(scribe.feed(piece), other.feed(piece))
            with self.assertRaises(NoWord):
                scribe.feed(refused)
            with self.assertRaises(BadSize):
                scribe.feed("a" * 400)
            self.assertEqual((scribe.told(), scribe.heard()), (other.told(), other.heard()))
        self.assertEqual(scribe.finish(), other.finish())

    def test_finishing_refused(self):
        turner = ([[[("a", 1)], []], [[("b", 0)], []]], [[], ["b"]])
        scribe = Scribe("ab", turner)
        with self.assertRaises(NoWord):
            scribe.finish()
        self.assertEqual((scribe.told(), scribe.heard()), ("ab", ""))
        scribe.feed("aa")
        with self.assertRaises(NoWord):
            scribe.finish()
        self.assertEqual((scribe.told(), scribe.heard()), ("abab", "aa"))
        self.assertEqual((scribe.feed("a"), scribe.finish()), ("", ""))

    def test_made_up_turners(self):
        for letters, turner in some_scribes(665, 150):
            told = {word: answers(letters, turner, word) for word in all_words(letters, 5 if letters != "abc" else 4)}
            if not any(told.values()):
                continue
            for read in all_words(letters, 2):
                scribe = Scribe(letters, turner)
                if any(found and word.startswith(read) for word, found in told.items()):
                    scribe.feed(read)
                    if told[read]:
                        self.assertEqual([scribe.told() + scribe.finish()], told[read])
                    else:
                        with self.assertRaises(NoWord):
                            scribe.finish()
                        self.assertEqual(scribe.heard(), read)


class ObjectTest(unittest.TestCase):
    def test_a_second_word_behind_the_first_one(self):
        scribe = Scribe("ab", LATE)
        for word in ("ab", "", "bba", "a", ""):
            self.assertEqual([scribe.told() + scribe.feed(word) + scribe.finish()], answers("ab", LATE, word))

    def test_two_scribes_by_turns(self):
        one, other = Scribe("ab", LATE), Scribe("ab", LATE)
        self.assertEqual((one.feed("b"), other.feed("aa"), one.feed("b")), ("b", "aa", "b"))
        self.assertEqual((one.told(), other.told(), one.heard(), other.heard()), ("abb", "aaa", "bb", "aa"))
        one.finish()
        self.assertEqual((one.told(), other.told(), one.heard(), other.heard()), ("a", "aaa", "", "aa"))

    def test_lists_of_the_turner_changed_behind_the_making(self):
        turner = copy.deepcopy(LATE)
        scribe = Scribe("ab", turner)
        self.assertEqual(turner, LATE)
        turner[0][0][0][0] = ("bb", 0)
        turner[0][1].clear()
        turner[0][2][1].append(("a", 2))
        turner[1][0].append("b")
        turner[1].pop()
        self.assertEqual([scribe.told() + scribe.feed("abba") + scribe.finish()], answers("ab", LATE, "abba"))
        self.assertEqual([scribe.told() + scribe.feed("bb") + scribe.finish()], answers("ab", LATE, "bb"))


if __name__ == "__main__":
    unittest.main()
