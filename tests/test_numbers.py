import unittest

from helpers import all_words, check_new, counter, cycle, some_machines, taken, taken_words

from hallofwords.errors import NoWord
from hallofwords.making import word_machine
from hallofwords.numbers import count, count_ahead, kth, next_word, place_of, upto

MOST = {"a": 7, "ab": 5, "ba": 5, "abc": 4}
EVERY = ([[0, 0]], [True])
NOTHING = ([[0, 0]], [False])
FIB = ([[1, 0], [2, 0], [2, 2]], [True, True, False])


class CountTest(unittest.TestCase):
    def test_made_up_machines(self):
        for letters, machine in some_machines(401, 200):
            words = taken_words(letters, machine, MOST[letters])
            for length in range(MOST[letters] + 1):
                self.assertEqual(count(letters, machine, length), sum(len(word) == length for word in words))
                self.assertEqual(upto(letters, machine, length), sum(len(word) <= length for word in words))

    def test_lengths_0_and_200(self):
        self.assertEqual([count("ab", EVERY, 0), count("ab", EVERY, 200)], [1, 2 ** 200])
        self.assertEqual([upto("ab", EVERY, 0), upto("ab", EVERY, 200)], [1, 2 ** 201 - 1])
        self.assertEqual([count("ab", NOTHING, 0), count("ab", NOTHING, 200), upto("ab", NOTHING, 200)], [0, 0, 0])
        self.assertEqual([count("a", cycle(7, 4), 200), upto("a", cycle(7, 4), 200)], [1, 29])
        one, other = 1, 1
        for _ in range(200):
            one, other = other, one + other
        self.assertEqual(count("ab", FIB, 200), other)


class PlaceTest(unittest.TestCase):
    def test_made_up_machines(self):
        for letters, machine in some_machines(402, 150):
            words = taken_words(letters, machine, MOST[letters])
            for place, word in enumerate(words):
                self.assertEqual(kth(letters, machine, place), word)
                self.assertEqual(place_of(letters, machine, word), place)
            ahead = 0
            for word in all_words(letters, MOST[letters]):
                self.assertEqual(count_ahead(letters, machine, word), ahead)
                if taken(letters, machine, word):
                    ahead += 1
                else:
                    self.assertIsNone(place_of(letters, machine, word))

    def test_word_without_signs(self):
        self.assertEqual((place_of("ab", EVERY, ""), count_ahead("ab", EVERY, ""), kth("ab", EVERY, 0)), (0, 0, ""))
        self.assertIsNone(place_of("ab", NOTHING, ""))
        self.assertEqual(next_word("ab", EVERY, ""), "a")

    def test_order_of_the_letters(self):
        self.assertEqual([kth("ba", EVERY, place) for place in range(7)], ["", "b", "a", "bb", "ba", "ab", "aa"])
        self.assertEqual([place_of("ba", EVERY, word) for word in ("", "b", "a", "bb", "aa")], [0, 1, 2, 3, 6])

    def test_back_and_forth(self):
        for machine in (EVERY, FIB):
            for place in (0, 1, 10 ** 6, 10 ** 20 + 7, upto("ab", machine, 199), upto("ab", machine, 200) - 1):
                word = kth("ab", machine, place)
                self.assertEqual(place_of("ab", machine, word), place)
                self.assertEqual(count_ahead("ab", machine, word), place)

    def test_places_at_the_number_of_all_words(self):
        for letters, machine in (("ab", EVERY), ("ab", FIB), ("a", cycle(7, 4)), ("a", counter(12)), ("a", cycle(200, 0))):
            many = upto(letters, machine, 200)
            word = kth(letters, machine, many - 1)
            self.assertEqual(place_of(letters, machine, word), many - 1)
            for place in (many, many + 1, 10 ** 100):
                with self.assertRaises(NoWord):
                    kth(letters, machine, place)
        self.assertEqual(kth("ab", EVERY, 2 ** 201 - 2), "b" * 200)
        self.assertEqual(kth("ab", EVERY, 2 ** 200 - 1), "a" * 200)
        with self.assertRaises(NoWord):
            kth("ab", NOTHING, 0)


class NextTest(unittest.TestCase):
    def test_made_up_machines(self):
        for letters, machine in some_machines(403, 120):
            words = all_words(letters, MOST[letters])
            for place, word in enumerate(words):
                behind = [other for other in words[place + 1:] if taken(letters, machine, other)]
                if behind:
                    self.assertEqual(next_word(letters, machine, word), behind[0])

    def test_finite_machines(self):
        machine = word_machine("ab", ["ab", "b", "", "bbba"])
        self.assertEqual([next_word("ab", machine, word) for word in ("", "a", "b", "aa", "ab", "bbb", "bbab", "aaaa")],
                         ["b", "b", "ab", "ab", "bbba", "bbba", "bbba", "bbba"])
        for word in ("bbba", "bbbb", "a" * 5, "b" * 200):
            with self.assertRaises(NoWord):
                next_word("ab", machine, word)
        with self.assertRaises(NoWord):
            next_word("ab", NOTHING, "")

    def test_words_of_200_and_201_signs(self):
        self.assertEqual(next_word("ab", EVERY, "b" * 199), "a" * 200)
        self.assertEqual(next_word("ab", EVERY, "b" * 199 + "a"), "b" * 200)
        with self.assertRaises(NoWord):
            next_word("ab", EVERY, "b" * 200)
        self.assertEqual(next_word("a", cycle(40, 0), "a" * 160), "a" * 200)
        with self.assertRaises(NoWord):
            next_word("a", cycle(40, 0), "a" * 200)
        self.assertEqual(next_word("a", cycle(40, 0), "a" * 161), "a" * 200)
        with self.assertRaises(NoWord):
            next_word("a", cycle(67, 0), "a" * 134)
        self.assertEqual(next_word("a", cycle(67, 0), "a" * 133), "a" * 134)

    def test_nothing_modified(self):
        machine = ([[1, 0], [0, 1]], [True, False])
        for call, value in ((count, 5), (upto, 5), (count_ahead, "ab"), (place_of, "ba"), (kth, 9), (next_word, "ab")):
            check_new(self, call, "ab", machine, value)


if __name__ == "__main__":
    unittest.main()
