import random
import unittest

from helpers import all_words, lists_in, some_machines, taken

from hallofwords.errors import BadSize
from hallofwords.finder import Finder
from hallofwords.finding import all_places
from hallofwords.making import machine_of, word_machine

EVERY = ([[0, 0]], [True])
NOTHING = ([[0, 0]], [False])


def cut(rng, text):
    """The text in pieces, some of them without signs."""
    places = sorted(rng.choices(range(len(text) + 1), k=rng.randrange(5)))
    return [text[begin:end] for begin, end in zip([0] + places, places + [len(text)])]


class FeedTest(unittest.TestCase):
    def test_texts_cut_in_several_ways(self):
        rng = random.Random(451)
        for letters, machine in some_machines(452, 150):
            text = "".join(rng.choice(letters) for _ in range(rng.randrange(12)))
            for _ in range(4):
                finder = Finder(letters, machine)
                told = finder.begun()
                fed = ""
                for piece in cut(rng, text):
                    found = finder.feed(piece)
                    fed += piece
                    self.assertTrue(all(len(fed) - len(piece) < end <= len(fed) for _, end in found))
                    told += found
                    self.assertEqual(finder.fed, len(fed))
                    self.assertEqual(told, all_places(letters, machine, fed))
                self.assertEqual(told, all_places(letters, machine, text))
                self.assertEqual(finder.begun(), [(0, 0)] if machine[1][0] else [])

    def test_pieces_without_signs(self):
        finder = Finder("ab", EVERY)
        self.assertEqual((finder.begun(), finder.feed(""), finder.fed), ([(0, 0)], [], 0))
        self.assertEqual(finder.feed("a"), [(0, 1), (1, 1)])
        self.assertEqual((finder.feed(""), finder.fed), ([], 1))
        self.assertEqual(finder.begun(), [(0, 0)])
        self.assertEqual(Finder("ab", NOTHING).begun(), [])

    def test_400_and_401_signs(self):
        finder = Finder("ab", word_machine("ab", ["b"]))
        self.assertEqual(finder.feed("a" * 399), [])
        for piece, size in (("ab", 401), ("b" * 4000, 4399)):
            with self.assertRaises(BadSize) as caught:
                finder.feed(piece)
            self.assertEqual(caught.exception.size, size)
            self.assertEqual(finder.fed, 399)
        self.assertEqual(finder.feed("b"), [(399, 400)])
        self.assertEqual((finder.feed(""), finder.fed), ([], 400))
        with self.assertRaises(BadSize) as caught:
            finder.feed("b")
        self.assertEqual(caught.exception.size, 401)
        whole = Finder("ab", EVERY)
        with self.assertRaises(BadSize):
            whole.feed("a" * 401)
        self.assertEqual(len(whole.feed("a" * 400)), 401 * 402 // 2 - 1)

    def test_a_refused_piece_changes_nothing(self):
        machine = machine_of("ab", ("row", [("one", "a"), ("times", ("one", "ab"), 3, None)]))
        finder, other = Finder("ab", machine), Finder("ab", machine)
        for piece in ("abba", "b" * 390):
            self.assertEqual(finder.feed(piece), other.feed(piece))
            with self.assertRaises(BadSize):
                finder.feed("a" * 400)
            self.assertEqual((finder.fed, finder.waiting()), (other.fed, other.waiting()))
        self.assertEqual(finder.feed("aba"), other.feed("aba"))


class WaitingTest(unittest.TestCase):
    def test_made_up_machines(self):
        rng = random.Random(453)
        for letters, machine in some_machines(454, 150, most=4):
            text = "".join(rng.choice(letters) for _ in range(rng.randrange(6)))
            finder = Finder(letters, machine)
            finder.feed(text)
            behind = [word for word in all_words(letters, 4) if word]
            waiting = [begin for begin in range(len(text) + 1)
                       if any(taken(letters, machine, text[begin:] + word) for word in behind)]
            self.assertEqual(finder.waiting(), waiting, (machine, text))

    def test_examples(self):
        finder = Finder("ab", word_machine("ab", ["aab", "b", ""]))
        self.assertEqual(finder.waiting(), [0])
        finder.feed("a")
        self.assertEqual(finder.waiting(), [0, 1])
        finder.feed("a")
        self.assertEqual(finder.waiting(), [0, 1, 2])
        finder.feed("a")
        self.assertEqual(finder.waiting(), [1, 2, 3])
        finder.feed("b")
        self.assertEqual(finder.waiting(), [4])
        self.assertEqual(Finder("ab", word_machine("ab", [""])).waiting(), [])
        self.assertEqual(Finder("ab", NOTHING).waiting(), [])

    def test_words_longer_than_a_finder_takes(self):
        finder = Finder("ab", EVERY)
        finder.feed("ab" * 200)
        self.assertEqual(finder.waiting(), list(range(401)))


class ObjectTest(unittest.TestCase):
    def test_lists_of_the_machine_changed_behind_the_making(self):
        machine = ([[1, 0], [0, 1]], [False, True])
        finder, other = Finder("ab", machine), Finder("ab", ([[1, 0], [0, 1]], [False, True]))
        machine[0][0][0] = 0
        machine[0].append([0, 0])
        machine[1][0] = True
        self.assertEqual(finder.begun(), other.begun())
        self.assertEqual(finder.feed("aab"), other.feed("aab"))
        machine[0].clear()
        machine[1].clear()
        self.assertEqual(finder.waiting(), other.waiting())
        self.assertEqual(finder.feed("aab"), other.feed("aab"))

    def test_the_machine_is_not_modified(self):
        machine = ([[1, 0], [0, 1]], [False, True])
        finder = Finder("ab", machine)
        finder.feed("aab")
        self.assertEqual(machine, ([[1, 0], [0, 1]], [False, True]))

    def test_two_finders_by_turns(self):
        machine = machine_of("ab", ("times", ("one", "ab"), 1, 2))
        one, other = Finder("ab", machine), Finder("ab", machine)
        self.assertEqual(one.feed("a"), [(0, 1)])
        self.assertEqual(other.feed("bb"), [(0, 1), (0, 2), (1, 2)])
        self.assertEqual((one.fed, other.fed), (1, 2))
        self.assertEqual(one.feed("a"), [(0, 2), (1, 2)])
        self.assertEqual(one.waiting(), [1, 2])
        self.assertEqual(other.feed("a"), [(1, 3), (2, 3)])

    def test_what_is_handed_out_may_be_changed(self):
        finder, other = Finder("ab", EVERY), Finder("ab", EVERY)
        for call in (lambda one: one.begun(), lambda one: one.feed("ab"), lambda one: one.waiting()):
            told = call(finder)
            self.assertEqual(told, call(other))
            self.assertEqual(len(lists_in(told)), 1)
            told.append("x")
        self.assertEqual((finder.begun(), finder.waiting(), finder.feed("a")), (other.begun(), other.waiting(), other.feed("a")))

    def test_fed_is_a_property_that_cannot_be_assigned(self):
        self.assertIsInstance(vars(Finder)["fed"], property)
        with self.assertRaises(AttributeError):
            Finder("ab", EVERY).fed = 3


if __name__ == "__main__":
    unittest.main()
