import itertools
import random
import unittest

from helpers import all_words, check_new

from hallofwords.errors import BadLetters, BadSize, BadWord
from hallofwords.letters import check_letters, check_word, in_order


class CheckLettersTest(unittest.TestCase):
    def test_letters(self):
        for letters in ("a", "z", "ab", "ba", "qwerty", "fedcba", "abcdef"):
            self.assertIsNone(check_letters(letters))

    def test_no_letters(self):
        wrong = ["", "abcdefg", "aa", "aba", "abcdea", "A", "aB", "a1", "a b", " ", "a\n", "\u00e4", "a\u00e4", "_",
                 "`", "{", "abcdefghijklmnopqrstuvwxyz", "aaaaaaa"]
        for letters in wrong:
            with self.assertRaises(BadLetters, msg=letters):
                check_letters(letters)


class CheckWordTest(unittest.TestCase):
    def check(self, error, field, value, letters, word, **named):
        with self.assertRaises(error) as caught:
            check_word(letters, word, **named)
        self.assertEqual(vars(caught.exception), {field: value})

    def test_words(self):
        for word in ("", "a", "b", "abba", "a" * 200):
            self.assertIsNone(check_word("ab", word))

    def test_wrong_sign(self):
        self.check(BadWord, "place", 0, "ab", "c")
        self.check(BadWord, "place", 2, "ab", "abcac")
        self.check(BadWord, "place", 3, "ab", "aba ")
        self.check(BadWord, "place", 1, "ab", "aA")
        self.check(BadWord, "place", 1, "abc", "a\n")

    def test_length(self):
        self.check(BadSize, "size", 201, "ab", "a" * 201)
        self.check(BadSize, "size", 1000, "ab", "b" * 1000)

    def test_most(self):
        self.assertIsNone(check_word("ab", "", most=0))
        self.check(BadSize, "size", 1, "ab", "a", most=0)
        self.assertIsNone(check_word("ab", "abab", most=4))
        self.check(BadSize, "size", 5, "ab", "ababa", most=4)
        self.assertIsNone(check_word("ab", "a" * 4000, most=4000))

    def test_wrong_sign_ahead_of_length(self):
        self.check(BadWord, "place", 200, "ab", "a" * 200 + "c")
        self.check(BadWord, "place", 3, "ab", "abac", most=2)


class InOrderTest(unittest.TestCase):
    def test_examples(self):
        self.assertEqual(in_order("ab", []), [])
        self.assertEqual(in_order("ab", ["b", "", "aa", "a", "b", "", "ab"]), ["", "a", "b", "aa", "ab"])
        self.assertEqual(in_order("ba", ["a", "b", "ab", "ba", "aa", "bb"]), ["b", "a", "bb", "ba", "ab", "aa"])
        self.assertEqual(in_order("xcm", ["m", "cx", "c", "x", "xm", "xc"]), ["x", "c", "m", "xc", "xm", "cx"])

    def test_any_order(self):
        for letters in ("abc", "cab", "ba"):
            words = all_words(letters, 3)
            mixed = words + words[::3]
            random.Random(1).shuffle(mixed)
            self.assertEqual(in_order(letters, mixed), words)
        for words in itertools.permutations(["", "a", "b", "aa"]):
            self.assertEqual(in_order("ab", list(words)), ["", "a", "b", "aa"])

    def test_list_stays_and_answer_is_new(self):
        check_new(self, in_order, "ab", ["b", "a", "b"])
        check_new(self, in_order, "ab", ["a", "b"])


if __name__ == "__main__":
    unittest.main()
