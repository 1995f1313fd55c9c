import copy
import random
import unittest

from helpers import all_words, check_new, counter, cycle, some_machine, some_machines, taken
from turning import answers, in_their_order, roads, some_turner, some_turners, some_word

from hallofwords.errors import BadSize, BadTurner, TooGreat, TooMany
from hallofwords.imaging import places_to_write
from hallofwords.machines import least, words_upto
from hallofwords.making import machine_of, word_machine
from hallofwords.meeting import meet
from hallofwords.near import around
from hallofwords.turners import (
    check_turner,
    domain,
    has_answer,
    images,
    one_move,
    outs,
    road_count,
    same_of,
    then,
)

MOST = {"a": 6, "ab": 4, "ba": 4, "abc": 3}
# Each sign is written, or left out, or written twice.
LOOSE = ([[[("a", 0), ("", 0), ("aa", 0)], [("b", 0)]]], [[""]])


def behind(letters, first, second):
    """The turner of point 79, straight from its words, without the errors of point 80."""
    pairs = [(0, 0)]
    moves, ends = [], []
    for p, q in pairs:
        row = []
        for at in range(len(letters)):
            listed = []
            for word, to in first[0][p][at]:
                for written, other in all_readings(letters, second, word, q):
                    if (to, other) not in pairs:
                        pairs.append((to, other))
                    if (written, pairs.index((to, other))) not in listed:
                        listed.append((written, pairs.index((to, other))))
            row.append(listed)
        moves.append(row)
        words = []
        for word in first[1][p]:
            for written, other in all_readings(letters, second, word, q):
                words += [written + end for end in second[1][other] if written + end not in words]
        ends.append(list(dict.fromkeys(words)))
    return moves, ends


def all_readings(letters, turner, word, state):
    if not word:
        return [("", state)]
    return [(written + more, last) for written, reached in turner[0][state][letters.index(word[0])]
            for more, last in all_readings(letters, turner, word[1:], reached)]


def first_too_many(turner):
    """The size that point 80 tells of the turner, or None."""
    for row, words in zip(*turner):
        for listed, most in [(one, 13) for one in row] + [(words, 7)]:
            if len(listed) > most:
                return len(listed)
    return None


class CheckTest(unittest.TestCase):
    def right(self, turner, letters="ab"):
        self.assertIsNone(check_turner(letters, turner))

    def wrong(self, turner, letters="ab"):
        with self.assertRaises(BadTurner):
            check_turner(letters, turner)

    def test_right_ones(self):
        for turner in (LOOSE, ([[[], []]], [[]]), ([[[("ab" * 6, 1)], []], [[("", 0)], [("", 1)]]], [[""], ["ab" * 6]])):
            self.right(turner)
        for letters, turner in some_turners(601, 100):
            self.right(turner, letters)

    def test_numbers_of_states(self):
        self.wrong(([], []))
        self.right(([[[], []]] * 36, [[]] * 36))
        self.wrong(([[[], []]] * 37, [[]] * 37))
        self.wrong(([[[], []]] * 2, [[]]))
        self.wrong(([[[], []]], [[], []]))
        self.wrong(([[[], []]], []))

    def test_numbers_of_moves_and_end_words(self):
        words = all_words("ab", 3)
        self.right(([[[(word, 0) for word in words[:13]], []]], [[]]))
        self.wrong(([[[(word, 0) for word in words[:14]], []]], [[]]))
        self.wrong(([[[], []], [[], [(word, 0) for word in words[:14]]]], [[], []]))
        self.right(([[[], []]], [words[:7]]))
        self.wrong(([[[], []]], [words[:8]]))

    def test_equal_ones(self):
        self.wrong(([[[("a", 0), ("b", 0), ("a", 0)], []]], [[]]))
        self.right(([[[("a", 0), ("a", 1)], []], [[], []]], [[], []]))
        self.wrong(([[[], []]], [["a", "", "a"]]))
        self.wrong(([[[], []]], [["", ""]]))

    def test_words(self):
        for word in ("a" * 13, "c", "abc", "A", "a b", " ", "-"):
            self.wrong(([[[(word, 0)], []]], [[]]))
            self.wrong(([[[], []]], [[word]]))
            self.wrong(([[[], []]], [["", word]]))
        self.wrong(([[[("b", 0)]]], [[]]), "a")

    def test_states(self):
        for state in (-1, 1, 2, True, False, None, "0", 0.0, (0,), [0], 10 ** 30, -10 ** 30):
            self.wrong(([[[("a", state)], []]], [[]]))
        for state in (2, True, False, None, -1, -2):
            self.wrong(([[[], []], [[], [("", 0), ("a", state)]]], [[], []]))
        self.right(([[[], []], [[], [("", 0), ("a", 1)]]], [[], []]))

    def test_rows_of_other_lengths(self):
        for row in ([], [[]], [[], [], []], [[("a", 0)]]):
            self.wrong(([row], [[]]))
            self.wrong(([[[], []], row], [[], []]))

    def test_changed_turners(self):
        rng = random.Random(602)
        for letters, turner in some_turners(603, 100, states=4):
            many = len(turner[0])
            for wrong in ("zz", "a" * 13):
                other = copy.deepcopy(turner)
                other[0][rng.randrange(many)][rng.randrange(len(letters))].append((wrong, 0))
                self.wrong(other, letters)
            other = copy.deepcopy(turner)
            other[0][rng.randrange(many)].append([])
            self.wrong(other, letters)


class OutsTest(unittest.TestCase):
    def test_made_up_turners(self):
        for letters, turner in some_turners(604, 150):
            for word in all_words(letters, MOST[letters]):
                told = answers(letters, turner, word)
                self.assertEqual(road_count(letters, turner, word), len(roads(letters, turner, word)))
                for most in (0, 1, 2, 50):
                    self.assertEqual(outs(letters, turner, word, most=most), told[:most], (turner, word))
                self.assertEqual(outs(letters, turner, word), told[:50])
                for answer in told[:20] + [letters[0] + one for one in told[:5]] + ["", letters[-1]]:
                    self.assertIs(has_answer(letters, turner, word, answer), answer in told)

    def test_no_answer_one_and_several(self):
        turner = ([[[("b", 1)], []], [[("", 0), ("b", 1)], [("a", 1), ("a", 0)]]], [[], ["", "b"]])
        for word, told, number in (("", [], 0), ("b", [], 0), ("a", ["b", "bb"], 2), ("aa", ["bb", "bbb"], 2),
                                   ("ab", ["ba", "bab"], 2)):
            self.assertEqual(outs("ab", turner, word), told)
            self.assertEqual(road_count("ab", turner, word), number)

    def test_the_same_answer_on_several_roads(self):
        turner = ([[[("a", 0), ("a", 1)]], [[("aa", 1), ("", 1)]]], [["aa", ""], ["a", ""]])
        self.assertEqual(road_count("a", turner, "aa"), 8)
        self.assertEqual(outs("a", turner, "aa"), ["a", "aa", "aaa", "aaaa"])
        self.assertEqual(roads("a", turner, "aa").count("aa"), 3)

    def test_great_numbers_of_roads(self):
        words = all_words("ab", 3)[:13]
        turner = ([[[(word, 0) for word in words], [("b", 0)]]], [["", "a", "b"]])
        self.assertEqual(road_count("ab", turner, "a" * 200), 3 * 13 ** 200)
        self.assertEqual(road_count("ab", turner, "ab" * 100), 3 * 13 ** 100)
        self.assertEqual(outs("ab", turner, "a" * 80), all_words("ab", 5)[:50])
        self.assertEqual(outs("ab", turner, "a" * 80, most=0), [])
        self.assertEqual(outs("ab", turner, "a" * 79 + "b", most=3), ["b", "ab", "ba"])
        self.assertIs(has_answer("ab", turner, "a" * 1000, "ab" * 1000), True)
        self.assertIs(has_answer("ab", turner, "a" * 600, "ab" * 1000), False)

    def test_order_of_the_letters(self):
        self.assertEqual(outs("ba", one_move("ba"), "a"), ["", "b", "a", "ba", "ab", "aa"])
        self.assertEqual(outs("ab", one_move("ab"), "a"), ["", "a", "b", "aa", "ab", "ba"])
        self.assertEqual(outs("cab", one_move("cab"), "", most=3), ["", "c", "a"])

    def test_first_answers_of_long_words(self):
        rng = random.Random(605)
        for letters, turner in some_turners(606, 40, letters=("ab", "ba"), states=4, moves=(1, 2), ends=(0, 1), most=1):
            word = "".join(rng.choice(letters) for _ in range(12))
            told = answers(letters, turner, word)
            self.assertEqual(outs(letters, turner, word), told[:50])
            self.assertEqual(outs(letters, turner, word, most=7), told[:7])
        turner = ([[[(some_word(rng, "abcdef", 12), rng.randrange(36)) for _ in range(13)] for _ in "abcdef"]
                   for _ in range(36)], [[some_word(rng, "abcdef", 12)] for _ in range(36)])
        word = "".join(rng.choice("abcdef") for _ in range(80))
        found = outs("abcdef", turner, word)
        self.assertEqual(len(found), 50)
        self.assertEqual(found, in_their_order("abcdef", found))
        for answer in found[::10]:
            self.assertIs(has_answer("abcdef", turner, word, answer), True)

    def test_has_answer_of_2000_signs(self):
        turner = ([[[("ab", 0), ("", 1)], [("b", 0)]], [[("a", 1)], [("", 0)]]], [["b"], []])
        self.assertIs(has_answer("ab", turner, "a" * 1000 + "b" * 999, "ab" * 1000 + "b" * 1000), True)
        self.assertIs(has_answer("ab", turner, "a" * 1000 + "b" * 998, "ab" * 1000 + "b" * 999), True)
        self.assertIs(has_answer("ab", turner, "a" * 1000 + "b" * 998, "ab" * 1000 + "b" * 1000), False)
        self.assertIs(has_answer("ab", turner, "a" * 2000, "a" * 1999), False)
        self.assertIs(has_answer("ab", turner, "a" * 1999 + "b", "a" * 1998 + "b"), True)


class DomainTest(unittest.TestCase):
    def test_made_up_turners(self):
        rng = random.Random(607)
        errors = 0
        for letters, turner in some_turners(608, 200):
            into = rng.choice([None, some_machine(rng, letters, 4)])
            try:
                told = domain(letters, turner, into=into) if into else domain(letters, turner)
            except (TooMany, TooGreat):
                errors += 1
                continue
            self.assertEqual(told, least(letters, told))
            for word in all_words(letters, MOST[letters]):
                good = any(into is None or taken(letters, into, answer) for answer in answers(letters, turner, word))
                self.assertIs(taken(letters, told, word), good, (turner, into, word))
        self.assertLess(errors, 10)

    def test_errors(self):
        # Behind the k-th of k states further on an answer is due: as many sets as subsets of the states.
        def sets(many):
            moves = [[[("", 0), ("", 1)], [("", 0)]]] + [[[("", k + 1)]] * 2 for k in range(1, many - 1)] + [[[], []]]
            return moves, [[] for _ in range(many - 1)] + [[""]]

        self.assertEqual(len(domain("ab", sets(6))[0]), 32)
        for many, error in ((8, TooGreat), (11, TooGreat), (12, TooMany)):
            with self.assertRaises(error):
                domain("ab", sets(many))

    def test_all_pairs_count(self):
        """Also such from which no answer comes: as many things as subsets, and no word at all."""
        moves = [[[("", 0), ("", 1)], [("", 0)]]] + [[[("", k + 1)]] * 2 for k in range(1, 11)] + [[[], []]]
        with self.assertRaises(TooMany):
            domain("ab", (moves, [[] for _ in range(12)]))
        with self.assertRaises(TooMany):
            domain("ab", (moves, [[] for _ in range(11)] + [["a"]]), into=([[0, 0]], [False]))

    def test_limits_hang_on_the_words_of_the_machine(self):
        padded = ([[0, 0]] + [[k, k] for k in range(1, 20)], [True] * 20)
        self.assertEqual(domain("ab", LOOSE, into=padded), ([[0, 0]], [True]))
        self.assertEqual(images("ab", LOOSE, of=padded), ([[0, 0]], [True]))


class ImagesTest(unittest.TestCase):
    def test_made_up_turners(self):
        rng = random.Random(609)
        errors = 0
        for letters, turner in some_turners(610, 250, letters=("a", "ab", "ba")):
            of = rng.choice([None, some_machine(rng, letters, 3)])
            try:
                told = images(letters, turner, of=of) if of else images(letters, turner)
            except (TooMany, TooGreat):
                errors += 1
                continue
            self.assertEqual(told, least(letters, told))
            found = {answer: True for word in all_words(letters, 6) if of is None or taken(letters, of, word)
                     for answer in answers(letters, turner, word)}
            for answer in found:
                self.assertTrue(taken(letters, told, answer), (turner, of, answer))
            for answer in all_words(letters, 3):
                self.assertIs(taken(letters, told, answer), self.is_image(letters, turner, of, answer), (turner, of, answer))
        self.assertLess(errors, 20)

    def is_image(self, letters, turner, of, answer):
        """Whether this is an answer, by going through what can still be written."""
        of = of or ([[0] * len(letters)], [True])
        spots = [(0, 0, 0)]
        for done, q, s in spots:
            if of[1][s] and any(answer[done:] == end for end in turner[1][q]):
                return True
            for at in range(len(letters)):
                for word, behind in turner[0][q][at]:
                    spot = (done + len(word), behind, of[0][s][at])
                    if answer[done:].startswith(word) and spot not in spots:
                        spots.append(spot)
        return False

    def test_examples(self):
        self.assertEqual(words_upto("ab", images("ab", LOOSE, of=word_machine("ab", ["ab"])), 9), ["b", "ab", "aab"])
        self.assertEqual(images("ab", LOOSE), ([[0, 0]], [True]))
        self.assertEqual(images("ab", LOOSE, of=([[0, 0]], [False])), ([[0, 0]], [False]))
        self.assertEqual(images("ab", ([[[], []]], [["ab", "b"]])), word_machine("ab", ["ab", "b"]))
        self.assertEqual(images("ab", ([[[], []]], [["ab", "b"]]), of=word_machine("ab", ["b"])), ([[0, 0]], [False]))

    def test_errors(self):
        rng = random.Random(611)
        kinds = {}
        for _ in range(40):
            turner = some_turner(rng, "ab", states=8, moves=(1, 2, 3), ends=(0, 1), most=12)
            try:
                images("ab", turner)
            except (TooMany, TooGreat) as error:
                kinds[type(error)] = True
        self.assertIn(TooGreat, kinds)
        turner = some_turner(random.Random(612), "abcdef", states=1, moves=(6,), ends=(1,), most=0)
        self.assertEqual(len(images("abcdef", turner)[0]), 2)
        # The sign a, and then any sign as often as there are states: twice as many sets for each state.
        every = [[("a", 0), ("b", 0), ("a", 1)]] * 2
        moves = [every] + [[[("a", k + 1), ("b", k + 1)]] * 2 for k in range(1, 11)] + [[[], []]]
        with self.assertRaises(TooMany):
            images("ab", (moves, [[] for _ in range(11)] + [[""]]))
        with self.assertRaises(TooMany):
            images("ab", (moves, [[] for _ in range(12)]))
        with self.assertRaises(TooGreat):
            images("ab", (moves[:7] + [[[], []]], [[] for _ in range(7)] + [[""]]))


class ThingsTest(unittest.TestCase):
    """The things of point 76, which no answer but TooMany tells: as many as there are sets of places."""

    def slow_things(self, letters, turner, of):
        def closed(places):
            places = list(places)
            for rest, q, s in places:
                found = []
                if rest == "" and q is not None:
                    for at in range(len(letters)):
                        found += [(word, p, of[0][s][at]) for word, p in turner[0][q][at]]
                    if of[1][s]:
                        found += [(word, None, None) for word in turner[1][q]]
                places += [place for place in dict.fromkeys(found) if place not in places]
            return frozenset(places)

        things = [closed([("", 0, 0)])]
        for thing in things:
            for sign in letters:
                reached = closed({(rest[1:], q, s) for rest, q, s in thing if rest[:1] == sign})
                if reached not in things:
                    things.append(reached)
        return things

    def test_made_up_turners(self):
        rng = random.Random(616)
        for letters, turner in some_turners(617, 120, letters=("a", "ab", "ba"), most=3):
            of = least(letters, some_machine(rng, letters, 3))
            first, leading, end = places_to_write(letters, turner, of)

            def step(mask, at):
                found = 0
                for place, reached in leading[at][1].items():
                    if mask >> place & 1:
                        found |= reached
                return found

            met = meet(letters, first, step)
            slow = self.slow_things(letters, turner, of)
            self.assertEqual(len(met.things), len(slow))
            self.assertEqual([mask & end != 0 for mask in met.things], [("", None, None) in thing for thing in slow])
            self.assertEqual([bin(mask).count("1") for mask in met.things], [len(thing) for thing in slow])


class SameTest(unittest.TestCase):
    def test_made_up_machines(self):
        for letters, machine in some_machines(613, 120, most=6):
            table, ends = least(letters, machine)
            turner = same_of(letters, machine)
            self.assertEqual(turner, ([[[(sign, state)] for sign, state in zip(letters, row)] for row in table],
                                      [[""] if end else [] for end in ends]))
            self.assertIsNone(check_turner(letters, turner))
            for word in all_words(letters, 3):
                self.assertEqual(outs(letters, turner, word), [word] if taken(letters, machine, word) else [])
            self.assertEqual(domain(letters, turner), (table, ends))
            self.assertEqual(images(letters, turner), (table, ends))

    def test_thirty_six_states_of_the_least_machine(self):
        self.assertEqual(len(same_of("a", cycle(36, 1))[0]), 36)
        self.assertEqual(len(same_of("a", cycle(60, 1, 31))[0]), 30)
        for machine, size in ((cycle(37, 1), 37), (cycle(60, 2), 60), (counter(35), 37)):
            with self.assertRaises(BadSize) as caught:
                same_of("a", machine)
            self.assertEqual(caught.exception.size, size)


class OneMoveTest(unittest.TestCase):
    def test_lists(self):
        self.assertEqual(one_move("ab"), (
            [[[("a", 0), ("", 1), ("b", 1), ("aa", 1), ("ba", 1)], [("b", 0), ("", 1), ("a", 1), ("ab", 1), ("bb", 1)]],
             [[("a", 1)], [("b", 1)]]],
            [["", "a", "b"], [""]],
        ))
        self.assertEqual(one_move("a"), ([[[("a", 0), ("", 1), ("aa", 1)]], [[("a", 1)]]], [["", "a"], [""]]))
        self.assertEqual(one_move("bca")[0][0][1], [("c", 0), ("", 1), ("b", 1), ("a", 1), ("bc", 1), ("cc", 1), ("ac", 1)])
        self.assertEqual(one_move("bca")[1], [["", "b", "c", "a"], [""]])
        for letters in ("a", "ba", "abc", "abcdef"):
            self.assertIsNone(check_turner(letters, one_move(letters)))

    def test_answers_are_what_is_around(self):
        for words in (["ab"], ["", "bba"], ["aaa", "b"]):
            machine = word_machine("ab", words)
            self.assertEqual(images("ab", one_move("ab"), of=machine), around("ab", machine, 1))
            self.assertEqual(domain("ab", one_move("ab"), into=machine), around("ab", machine, 1))


class ThenTest(unittest.TestCase):
    def some_pairs(self, seed, number):
        rng = random.Random(seed)
        for _ in range(number):
            letters = rng.choice(["a", "ab", "ba"])
            yield letters, *[some_turner(rng, letters, states=4, moves=(0, 1, 1, 2), ends=(0, 1, 2), most=3)
                             for _ in range(2)]

    def test_state_for_state_and_move_for_move(self):
        refused = 0
        for letters, first, second in self.some_pairs(614, 300):
            told = behind(letters, first, second)
            size = first_too_many(told)
            if size is None:
                self.assertEqual(then(letters, first, second), told)
                check_turner(letters, told)
                for word in all_words(letters, 3):
                    found = [other for one in answers(letters, first, word) for other in answers(letters, second, one)]
                    self.assertEqual(answers(letters, told, word), in_their_order(letters, found))
            else:
                refused += 1
                with self.assertRaises(BadSize) as caught:
                    then(letters, first, second)
                self.assertEqual(caught.exception.size, size)
        self.assertTrue(5 < refused < 250)

    def test_example(self):
        first = ([[[("bb", 1), ("", 0)], []], [[("b", 0)], [("a", 1)]]], [["b"], [""]])
        second = ([[[("a", 1)], [("b", 1), ("ab", 0)]], [[], [("", 1), ("b", 0), ("", 0)]]], [["a"], ["", "b"]])
        self.assertEqual(then("ab", first, second), behind("ab", first, second))
        self.assertEqual(then("ab", first, second)[0][0][0],
                         [("b", 1), ("bb", 2), ("b", 2), ("abb", 1), ("abab", 2), ("", 0)])
        self.assertEqual(then("ab", first, second)[1][0], ["b", "bb", "aba"])

    def test_pairs_from_which_no_answer_comes_stay(self):
        first = ([[[("a", 0)], [("b", 1)]], [[], []]], [[""], []])
        second = same_of("ab", ([[0, 1], [1, 1]], [True, False]))
        self.assertEqual(then("ab", first, second), ([[[("a", 0)], [("b", 1)]], [[], []]], [[""], []]))

    def test_refusals_and_their_order(self):
        def states(many, word=""):
            return [[[(word, 0)]] for _ in range(many)], [[] for _ in range(many)]

        def ends(word):
            return [[[("", 0)]]], [["", word]]

        for first, second, size in (
            (states(7, "aaaa"), states(8, "aaaaa"), 7),
            (states(6, "aaaa"), states(8, "aaaaa"), 8),
            (states(36), states(36), 36),
            (states(6, "aaaa"), states(6, "aaaaa"), 4),
            (ends("a" * 12), states(6, "aaaa"), 12),
            (states(6, "aaa"), states(6, "aaaaa"), 5),
            (states(6, "aaa"), ends("a" * 6), 6),
            (ends("aaaa"), ends("a" * 5), 4),
        ):
            with self.assertRaises(BadSize) as caught:
                then("a", first, second)
            self.assertEqual(caught.exception.size, size)
        self.assertEqual(then("a", states(6, "aaa"), states(6, "aaa")), ([[[("a" * 9, 0)]]], [[]]))

    def test_too_many_moves_and_end_words(self):
        four = [("a", 0), ("b", 0), ("aa", 0), ("bb", 0)]
        told = then("ab", ([[[("aa", 0)], [("ab", 0)]]], [["", "a"]]), ([[four[:3], four]], [[""]]))
        # Of the twelve ways for "ab" two write "aaa".
        self.assertEqual(len(told[0][0][1]), 11)
        # Of the sixteen ways for "bb" some write the same: it is the different moves that count.
        second = ([[four, four]], [["", "a"]])
        told = behind("ab", ([[[], [("bb", 0)]]], [[]]), second)
        self.assertEqual(first_too_many(told), len(told[0][0][1]))
        with self.assertRaises(BadSize) as caught:
            then("ab", ([[[], [("bb", 0)]]], [[]]), second)
        self.assertEqual(caught.exception.size, len(told[0][0][1]))
        # End words count behind the letters of their pair, and ahead of those of the next pair.
        first = ([[[("", 1)], []], [[], [("bb", 0)]]], [["a", "ab"], []])
        told = behind("ab", first, second)
        self.assertGreater(len(told[1][0]), 7)
        with self.assertRaises(BadSize) as caught:
            then("ab", first, second)
        self.assertEqual(caught.exception.size, len(told[1][0]))
        first = ([[[("", 1)], [("bbb", 0)]], [[], [("bb", 0)]]], [["a", "ab"], []])
        told = behind("ab", first, second)
        with self.assertRaises(BadSize) as caught:
            then("ab", first, second)
        self.assertEqual(caught.exception.size, len(told[0][0][1]))

    def test_thirteen_moves_and_seven_end_words(self):
        words = all_words("ab", 3)
        same = ([[[("a", 0)], [("b", 0)]]], [[""]])
        for many in (12, 13):
            first = ([[[(word, 0) for word in words[:many]], []]], [words[:many - 6]])
            self.assertEqual(then("ab", first, same), first)
            self.assertEqual(then("ab", same, first), ([[[(word, 0) for word in words[:many]], []]], [words[:many - 6]]))
        more = [("a", 0), ("b", 0), ("aa", 0), ("bb", 0), ("ab", 0), ("ba", 0), ("aaa", 0)]
        # Two states, so that the same words go with different states: just 14 moves.
        second = ([[more[:4] + [(word, 1) for word, _ in more[:3]]] * 2, [[], []]], [["", "a"], []])
        first = ([[[("a", 0), ("a", 1)], []], [[], []]], [[], []])
        self.assertEqual(len(behind("ab", first, second)[0][0][0]), 14)
        with self.assertRaises(BadSize) as caught:
            then("ab", first, second)
        self.assertEqual(caught.exception.size, 14)
        # Just 7 end words, as one of the ways writes what another one has written, and just 8.
        first = ([[[], []]], [["a", "b"]])
        second = ([[[("a", 0), ("b", 0)], [("bb", 0), ("aa", 0)]]], [["", "a"]])
        self.assertEqual(then("ab", first, second)[1], [["a", "aa", "b", "ba", "bb", "bba", "aaa"]])
        second = ([[[("a", 0), ("b", 0)], [("bb", 0), ("ab", 0)]]], [["", "a"]])
        with self.assertRaises(BadSize) as caught:
            then("ab", first, second)
        self.assertEqual(caught.exception.size, 8)

    def test_the_same_move_in_several_ways_counts_once(self):
        first = ([[[("aaa", 0)]]], [["aaa"]])
        second = ([[[("", 0), ("a", 0)]]], [["", "a", "aa"]])
        self.assertEqual(then("a", first, second),
                         ([[[("", 0), ("a", 0), ("aa", 0), ("aaa", 0)]]], [["", "a", "aa", "aaa", "aaaa", "aaaaa"]]))

    def test_thirty_six_states(self):
        first = ([[[("a", (k + 1) % 6)], [("b", k)]] for k in range(6)], [["a"]] * 6)
        second = ([[[("a", k)], [("ab", (k + 1) % 6)]] for k in range(6)], [["b"]] * 6)
        told = then("ab", first, second)
        self.assertEqual(told, behind("ab", first, second))
        self.assertEqual(len(told[0]), 36)
        check_turner("ab", told)

    def test_domains_and_images_of_both(self):
        for letters, first, second in self.some_pairs(615, 60):
            try:
                told = then(letters, first, second)
                whole = images(letters, told)
                self.assertEqual(whole, images(letters, second, of=images(letters, first)))
                self.assertEqual(domain(letters, told), domain(letters, first, into=domain(letters, second)))
            except (BadSize, TooMany, TooGreat):
                continue


class NothingModifiedTest(unittest.TestCase):
    def test_all(self):
        turner = ([[[("b", 1)], []], [[("", 0), ("b", 1)], [("a", 1), ("a", 0)]]], [[], ["", "b"]])
        machine = machine_of("ab", ("times", ("one", "a"), 0, None))
        check_new(self, check_turner, "ab", turner)
        check_new(self, road_count, "ab", turner, "aba")
        check_new(self, outs, "ab", turner, "aba")
        check_new(self, has_answer, "ab", turner, "aba", "b")
        check_new(self, domain, "ab", turner)
        check_new(self, domain, "ab", turner, into=machine)
        check_new(self, images, "ab", turner, of=machine)
        check_new(self, same_of, "ab", machine)
        check_new(self, one_move, "abc")
        check_new(self, then, "ab", turner, turner)


if __name__ == "__main__":
    unittest.main()
