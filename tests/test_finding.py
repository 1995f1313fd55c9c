import random
import unittest

from helpers import all_words, check_new, some_machines, taken

from hallofwords.finding import all_places, count_places, greatest, replaced
from hallofwords.folds import rowed
from hallofwords.machines import is_taken
from hallofwords.making import machine_of, word_machine

EVERY = ([[0, 0]], [True])
NOTHING = ([[0, 0]], [False])
SOME_AS = machine_of("ab", ("times", ("one", "a"), 0, None))
MOST = {"a": 6, "ab": 5, "ba": 5, "abc": 4}


def slow_places(letters, machine, text):
    """All places, straight from point 53."""
    return [(begin, end) for end in range(len(text) + 1) for begin in range(end + 1)
            if taken(letters, machine, text[begin:end])]


def slow_greatest(letters, machine, text):
    """The greatest places, straight from point 55."""
    places = slow_places(letters, machine, text)
    told = []
    at = 0
    while at <= len(text):
        ends = [end for begin, end in places if begin == at and end > at]
        if ends:
            told.append((at, max(ends)))
            at = max(ends)
            continue
        if (at, at) in places and all(end != at for _, end in told):
            told.append((at, at))
        at += 1
    return told


class PlacesTest(unittest.TestCase):
    def test_example_of_point_53(self):
        machine = word_machine("ab", ["a", "ab"])
        self.assertEqual(all_places("ab", machine, "aab"), [(0, 1), (1, 2), (1, 3)])
        self.assertEqual(count_places("ab", machine, "aab"), 3)

    def test_made_up_machines(self):
        for letters, machine in some_machines(441, 100):
            for text in all_words(letters, MOST[letters]):
                places = slow_places(letters, machine, text)
                self.assertEqual(all_places(letters, machine, text), places)
                self.assertEqual(count_places(letters, machine, text), len(places))

    def test_empty_places_and_the_word_without_signs(self):
        only_empty = word_machine("ab", [""])
        self.assertEqual(all_places("ab", only_empty, "aba"), [(0, 0), (1, 1), (2, 2), (3, 3)])
        self.assertEqual(all_places("ab", only_empty, ""), [(0, 0)])
        self.assertEqual(count_places("ab", only_empty, ""), 1)
        self.assertEqual(all_places("ab", NOTHING, ""), [])
        self.assertEqual(all_places("ab", EVERY, "ab"), [(0, 0), (0, 1), (1, 1), (0, 2), (1, 2), (2, 2)])

    def test_long_texts(self):
        self.assertEqual(all_places("ab", EVERY, "ab" * 100),
                         [(begin, end) for end in range(201) for begin in range(end + 1)])
        self.assertEqual(count_places("ab", EVERY, "ab" * 2000), 8006001)
        self.assertEqual(count_places("ab", NOTHING, "ab" * 2000), 0)
        self.assertEqual(count_places("ab", SOME_AS, "a" * 4000), 8006001)
        self.assertEqual(count_places("ab", word_machine("ab", ["ab", "ba"]), "ab" * 2000), 3999)
        self.assertEqual(count_places("ab", word_machine("ab", [""]), "ab" * 2000), 4001)

    def test_begins_and_ends(self):
        """Point 54."""
        for letters, machine in some_machines(442, 40, letters=("ab",)):
            behind = rowed(letters, EVERY, machine)
            ahead = rowed(letters, machine, EVERY)
            for text in all_words(letters, 5):
                places = all_places(letters, machine, text)
                for at in range(len(text) + 1):
                    self.assertIs(any(end == at for _, end in places), is_taken(letters, behind, text[:at]))
                    self.assertIs(any(begin == at for begin, _ in places), is_taken(letters, ahead, text[at:]))


class GreatestTest(unittest.TestCase):
    def test_examples_of_points_55_and_56(self):
        for text, places, told in (
            ("a", [(0, 1)], "c"),
            ("ab", [(0, 1), (2, 2)], "cbc"),
            ("ba", [(0, 0), (1, 2)], "cbc"),
        ):
            machine = machine_of("abc", ("times", ("one", "a"), 0, None))
            self.assertEqual(greatest("abc", machine, text), places)
            self.assertEqual(replaced("abc", machine, text, "c"), told)

    def test_made_up_machines(self):
        for letters, machine in some_machines(443, 150):
            for text in all_words(letters, MOST[letters]):
                told = greatest(letters, machine, text)
                self.assertEqual(told, slow_greatest(letters, machine, text), (machine, text))
                for by in ("", letters[0], letters * 2):
                    pieces = list(text) + [""]
                    for begin, end in told[::-1]:
                        pieces[begin:end] = [by]
                    self.assertEqual(replaced(letters, machine, text, by), "".join(pieces))
                # Each place that is not empty has a sign in common with a told one, and no sign lies in two.
                signs = [at for begin, end in told for at in range(begin, end)]
                self.assertEqual(len(signs), len(set(signs)))
                for begin, end in all_places(letters, machine, text):
                    self.assertTrue(begin == end or any(at in signs for at in range(begin, end)))

    def test_empty_places(self):
        only_empty = word_machine("ab", [""])
        self.assertEqual(greatest("ab", only_empty, ""), [(0, 0)])
        self.assertEqual(greatest("ab", only_empty, "ab"), [(0, 0), (1, 1), (2, 2)])
        self.assertEqual(replaced("ab", only_empty, "ab", "b"), "babbb")
        self.assertEqual(replaced("ab", only_empty, "", "ab"), "ab")
        self.assertEqual(greatest("ab", NOTHING, ""), [])
        self.assertEqual(replaced("ab", NOTHING, "ab", "a"), "ab")
        # The end of a told place is no begin of an empty one, but may be that of another one.
        maybe = word_machine("ab", ["", "a"])
        self.assertEqual(greatest("ab", maybe, "aab"), [(0, 1), (1, 2), (3, 3)])
        self.assertEqual(greatest("ab", maybe, "bb"), [(0, 0), (1, 1), (2, 2)])

    def test_replacing_by_the_word_without_signs(self):
        self.assertEqual(replaced("ab", word_machine("ab", ["ab"]), "aabbab", ""), "ab")
        self.assertEqual(replaced("ab", SOME_AS, "abaab", ""), "bb")
        self.assertEqual(replaced("ab", EVERY, "abaab", ""), "")

    def test_texts_of_200_signs(self):
        rng = random.Random(444)
        text = "".join(rng.choice("ab") for _ in range(200))
        machine = machine_of("ab", ("row", [("one", "a"), ("times", ("one", "ab"), 0, None), ("one", "b")]))
        self.assertEqual(greatest("ab", machine, text), slow_greatest("ab", machine, text))
        self.assertEqual(greatest("ab", EVERY, text), [(0, 200)])
        self.assertEqual(replaced("ab", word_machine("ab", ["a", "b"]), text, "babbab"), "babbab" * 200)
        self.assertEqual(greatest("ab", machine_of("ab", ("row", [("one", "a")])), "b" * 200), [])

    def test_nothing_modified(self):
        machine = ([[1, 0], [0, 1]], [True, False])
        check_new(self, all_places, "ab", machine, "aabb")
        check_new(self, count_places, "ab", machine, "aabb")
        check_new(self, greatest, "ab", machine, "aabb")
        check_new(self, replaced, "ab", machine, "aabb", "b")


if __name__ == "__main__":
    unittest.main()
