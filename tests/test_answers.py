import random
import unittest

from helpers import all_words, check_new, lists_in
from turning import answers, some_turners

from hallofwords.answers import is_one_paper, is_two_answers, one_answer
from hallofwords.errors import BadSize
from hallofwords.turners import one_move, same_of

MOST = {"a": 8, "ab": 5, "ba": 5, "abc": 4}
# "a" is written where it is read; "b" waits for the end, where the state tells what it becomes.
WAITING = ([[[("a", 0)], [("", 1)]], [[("", 2)], [("", 1)]], [[], []]], [[""], ["b"], []])


def rest(one, other):
    while one and other and one[0] == other[0]:
        one, other = one[1:], other[1:]
    return one, other


def met_pairs(turner):
    pairs = [(0, 0)]
    for p, q in pairs:
        for at in range(len(turner[0][0])):
            pairs += [pair for pair in dict.fromkeys((to, other) for _, to in turner[0][p][at]
                                                     for _, other in turner[0][q][at]) if pair not in pairs]
    return pairs


def slow_paper(letters, turner):
    """The paper of a turner of one answer, by the rests of the words that are met first."""
    moves, ends = turner
    rests = {(0, 0): ("", "")}
    waiting = [(0, 0)]
    for pair in waiting:
        for at in range(len(letters)):
            for v, p in moves[pair[0]][at]:
                for w, q in moves[pair[1]][at]:
                    if (p, q) not in rests:
                        rests[p, q] = rest(rests[pair][0] + v, rests[pair][1] + w)
                        waiting.append((p, q))
    good = {pair for pair in rests if ends[pair[0]] and ends[pair[1]]}
    for _ in rests:
        good |= {pair for pair in rests for at in range(len(letters)) for _, p in moves[pair[0]][at]
                 for _, q in moves[pair[1]][at] if (p, q) in good}
    return ([pair + rests[pair] for pair in sorted(rests) if pair in good],
            [pair for pair in sorted(rests) if pair not in good])


def slow_right(letters, turner, rests, idle):
    """Whether this is a paper, straight from point 83."""
    moves, ends = turner
    many = len(moves)
    first = [(p, q) for p, q, _, _ in rests]
    for listed in (first, idle):
        if listed != sorted(set(listed)) or not all(0 <= p < many and 0 <= q < many for p, q in listed):
            return False
    if any(one and other for _, _, one, other in rests):
        return False
    if (0, 0, "", "") not in rests and (0, 0) not in idle:
        return False
    for p, q in idle:
        if ends[p] and ends[q]:
            return False
        for at in range(len(letters)):
            if any((to, other) not in idle for _, to in moves[p][at] for _, other in moves[q][at]):
                return False
    for p, q, one, other in rests:
        if any(one + e != other + f for e in ends[p] for f in ends[q]):
            return False
        for at in range(len(letters)):
            for v, to in moves[p][at]:
                for w, behind in moves[q][at]:
                    if (to, behind) not in idle and (to, behind, *rest(one + v, other + w)) not in rests:
                        return False
    return True


class OneAnswerTest(unittest.TestCase):
    def test_made_up_turners(self):
        seen = {True: 0, False: 0}
        for letters, turner in some_turners(621, 600, states=4, moves=(0, 0, 1, 1, 1, 2), ends=(0, 0, 1, 1, 1)):
            is_one, told = one_answer(letters, turner)
            seen[is_one] += 1
            double = [word for word in all_words(letters, MOST[letters]) if len(answers(letters, turner, word)) > 1]
            if is_one:
                self.assertEqual(double, [])
                self.assertEqual(told, slow_paper(letters, turner))
                self.assertIs(is_one_paper(letters, turner, *told), True)
                self.assertTrue(slow_right(letters, turner, *told))
            else:
                word, one, other = told
                many = len(turner[0])
                self.assertLessEqual(len(word), many * (many + 1) - 1)
                if len(word) <= MOST[letters]:
                    self.assertEqual(word, double[0])
                else:
                    self.assertEqual(double, [])
                self.assertEqual([one, other], answers(letters, turner, word)[:2])
                self.assertIs(is_two_answers(letters, turner, word, one, other), True)
                self.assertIs(is_two_answers(letters, turner, word, other, one), True)
        self.assertGreater(min(seen.values()), 100)

    def test_examples(self):
        for letters, turner, told in (
            ("ab", same_of("ab", ([[0, 0]], [True])), (True, ([(0, 0, "", "")], []))),
            ("ab", same_of("ab", ([[0, 0]], [False])), (True, ([], [(0, 0)]))),
            ("ab", one_move("ab"), (False, ("", "", "a"))),
            ("ba", one_move("ba"), (False, ("", "", "b"))),
            ("ab", WAITING, (True, ([(0, 0, "", ""), (1, 1, "", "")], [(2, 2)]))),
            ("a", ([[[("a", 0), ("a", 1), ("", 2)]], [[("a", 1)]], [[]]], [[""], [""], ["aa"]]),
             (False, ("a", "a", "aa"))),
            ("a", ([[[("", 1), ("aa", 2)]], [[("a", 1)]], [[("a", 2)]]], [[], ["a"], []]),
             (True, ([(0, 0, "", ""), (1, 1, "", "")], [(1, 2), (2, 1), (2, 2)]))),
            ("a", ([[[("", 1), ("aa", 2)]], [[("aa", 1)]], [[("aa", 2)]]], [[], ["aa"], [""]]),
             (True, ([(0, 0, "", ""), (1, 1, "", ""), (1, 2, "", "aa"), (2, 1, "aa", ""), (2, 2, "", "")], []))),
        ):
            self.assertEqual(one_answer(letters, turner), told)

    def test_rests_of_point_82(self):
        """The rest of "abb" and "abab" is ("b", "ab"): no pair of a turner of one answer has it."""
        turner = ([[[("abb", 1), ("abab", 2)], []], [[], []], [[], []]], [[], ["a"], []])
        self.assertEqual(one_answer("ab", turner), (True, ([(0, 0, "", ""), (1, 1, "", "")], [(1, 2), (2, 1), (2, 2)])))
        turner[1][2].append("a")
        self.assertEqual(one_answer("ab", turner), (False, ("a", "abba", "ababa")))
        turner = ([[[("ab", 1), ("abab", 2)], []], [[], []], [[], []]], [[], ["ab"], [""]])
        self.assertEqual(one_answer("ab", turner)[1][0][2], (1, 2, "", "ab"))

    def test_late_double_words(self):
        # The two roads part at once, and are of unlike length only behind two rings of 3 and 4 states.
        moves = [[[("a", 1), ("a", 4)]]] + [[[("a", 1 + k % 3)]] for k in (1, 2, 3)] + [[[("a", 4 + k % 4)]] for k in (1, 2, 3, 4)]
        ends = [[], [""], [], [], [], [], [], ["a"]]
        is_one, (word, one, other) = one_answer("a", (moves, ends))
        self.assertEqual((is_one, word, one, other), (False, "a" * 4, "a" * 4, "a" * 5))
        ends = [[], ["a"], [], [], [], [], [], ["a"]]
        self.assertIs(one_answer("a", (moves, ends))[0], True)
        # The first written sign is told by the number of signs that follow it.
        moves = [[[("a", 1), ("", 4)]]] + [[[("", 1 + k % 3)]] for k in (1, 2, 3)] + [[[("", 4 + k % 4)]] for k in (1, 2, 3, 4)]
        ends = [[], [], [], [""], [], [], [""], []]
        self.assertEqual(one_answer("a", (moves, ends)), (False, ("a" * 3, "", "a")))
        ends = [[], [], [""], [], [""], [], [], []]
        self.assertEqual(one_answer("a", (moves, ends)), (False, ("a" * 5, "", "a")))

    def test_rests_that_grow(self):
        turner = ([[[("a", 0), ("aa", 0)], []]], [[]])
        self.assertEqual(one_answer("ab", turner), (True, ([], [(0, 0)])))
        turner = ([[[("a", 0), ("aa", 0)], [("b", 1)]], [[], []]], [[], [""]])
        self.assertEqual(one_answer("ab", turner), (False, ("ab", "ab", "aab")))

    def test_states(self):
        turner = ([[[("a", k)]] for k in range(8)], [[]] * 8)
        self.assertEqual(one_answer("a", turner), (True, ([], [(0, 0)])))
        for many in (9, 36):
            with self.assertRaises(BadSize) as caught:
                one_answer("a", ([[[("a", 0), ("", 0)]]] * many, [["", "a"]] * many))
            self.assertEqual(caught.exception.size, many)


class PaperTest(unittest.TestCase):
    def papers(self, seed, number):
        for letters, turner in some_turners(seed, number, states=3, moves=(0, 1, 1, 2), ends=(0, 1, 1)):
            is_one, told = one_answer(letters, turner)
            if is_one:
                yield letters, turner, *told

    def test_other_right_papers(self):
        turner = ([[[("a", 0)]], [[("a", 1)]], [[("", 1), ("a", 2)]]], [[""], [""], []])
        rests, idle = one_answer("a", turner)[1]
        self.assertEqual((rests, idle), ([(0, 0, "", "")], []))
        for more, left in (
            ([(1, 1, "", "")], []),
            ([(1, 1, "", "")], [(2, 2), (1, 2)]),
            ([(0, 1, "", "")], []),
            ([(0, 2, "a", "")], []),
            ([], [(0, 2)]),
            ([(1, 1, "", "a")], []),
            ([(1, 1, "aa", "aa")], []),
            ([(2, 2, "", "")], []),
            ([(1, 1, "", ""), (2, 2, "", "")], []),
            ([(1, 1, "", ""), (1, 2, "", ""), (2, 1, "", ""), (2, 2, "", "")], []),
        ):
            right = slow_right("a", turner, rests + more, left)
            self.assertIs(is_one_paper("a", turner, rests + more, left), right, (more, left))
        self.assertIs(is_one_paper("a", turner, [(0, 0, "", ""), (1, 1, "", "")], []), True)
        self.assertIs(is_one_paper("a", turner, [(0, 0, "", ""), (0, 1, "", "")], []), True)
        # A pair may stand in both lists.
        dead = ([[[("a", 0)]]], [[]])
        for rests, idle in (([], [(0, 0)]), ([(0, 0, "", "")], []), ([(0, 0, "", "")], [(0, 0)]), ([(0, 0, "a", "")], [(0, 0)])):
            self.assertIs(is_one_paper("a", dead, rests, idle), True)
        self.assertIs(is_one_paper("a", dead, [(0, 0, "a", "")], []), False)
        self.assertIs(is_one_paper("a", dead, [], []), False)

    def test_changed_papers(self):
        rng = random.Random(622)
        seen = {True: 0, False: 0}
        for letters, turner, rests, idle in self.papers(623, 250):
            many = len(turner[0])
            for _ in range(25):
                one, other = list(rests), list(idle)
                for _ in range(rng.randint(1, 2)):
                    self.change(rng, letters, many, one, other)
                right = slow_right(letters, turner, one, other)
                seen[right] += 1
                self.assertIs(is_one_paper(letters, turner, one, other), right, (turner, one, other))
        self.assertGreater(min(seen.values()), 300)

    def change(self, rng, letters, many, rests, idle):
        pair = (rng.randrange(many), rng.randrange(many))
        chance = rng.random()
        if chance < 0.2 and rests:
            del rests[rng.randrange(len(rests))]
        elif chance < 0.3 and idle:
            del idle[rng.randrange(len(idle))]
        elif chance < 0.5 and pair not in idle:
            idle.append(pair)
            idle.sort()
        elif chance < 0.65:
            words = rng.choice([("", ""), ("", letters[0]), (letters[-1], ""), (letters[0], letters[0])])
            if all((p, q) != pair for p, q, _, _ in rests):
                rests.append(pair + words)
                rests.sort()
        elif chance < 0.9 and rests:
            k = rng.randrange(len(rests))
            p, q, one, other = rests[k]
            rests[k] = rng.choice([(q, p, one, other), (p, q, other, one), (p, q, one + letters[0], other),
                                   (p, q, one, other + letters[-1]), (p, q, one[1:], other[1:])])
        elif rests and idle:
            idle.append(rests.pop()[:2])
            idle.sort()

    def test_order_and_numbers(self):
        for letters, turner, rests, idle in self.papers(624, 120):
            many = len(turner[0])
            for odd in ((-1, 0), (0, many), (many, many), (10 ** 30, 0), (0, -10 ** 30)):
                self.assertIs(is_one_paper(letters, turner, sorted(rests + [odd + ("", "")]), idle), False)
                self.assertIs(is_one_paper(letters, turner, rests, sorted(idle + [odd])), False)
            if len(rests) > 1:
                self.assertIs(is_one_paper(letters, turner, rests[::-1], idle), False)
            if len(idle) > 1:
                self.assertIs(is_one_paper(letters, turner, rests, idle[::-1]), False)
            if rests:
                self.assertIs(is_one_paper(letters, turner, rests + rests[-1:], idle), False)
                self.assertIs(is_one_paper(letters, turner, rests + [rests[-1][:2] + (letters[0], "")], idle), False)
            if idle:
                self.assertIs(is_one_paper(letters, turner, rests, idle + idle[-1:]), False)

    def test_numbers_that_are_no_states(self):
        """The last state has no end words and leads nowhere, so that nothing else is wrong with pairs in which it stands."""
        turner = ([[[("a", 0)]], [[]]], [[""], []])
        for pair in ((-1, 0), (0, -1), (2, 0), (0, 2), (-1, -1), (1, -1), (2, 1)):
            self.assertIs(is_one_paper("a", turner, [(0, 0, "", "")], [pair]), False)
            self.assertIs(is_one_paper("a", turner, sorted([(0, 0, "", ""), pair + ("", "")]), []), False)
        for pair in ((1, 0), (0, 1), (1, 1)):
            self.assertIs(is_one_paper("a", turner, [(0, 0, "", "")], [pair]), True)
            self.assertIs(is_one_paper("a", turner, [(0, 0, "", ""), pair + ("", "")], []), True)

    def test_no_paper_beside_two_answers(self):
        rng = random.Random(625)
        for letters, turner in some_turners(626, 60, states=2, moves=(1, 2), ends=(1, 2), most=1):
            if not one_answer(letters, turner)[0]:
                every = [(p, q) for p in range(len(turner[0])) for q in range(len(turner[0]))]
                for _ in range(30):
                    words = [("", ""), (letters[0], ""), ("", letters[0]), (letters[-1], "")]
                    rests = [pair + rng.choice(words) for pair in every if rng.random() < 0.8]
                    idle = [pair for pair in every if rng.random() < 0.3]
                    self.assertIs(is_one_paper(letters, turner, rests, idle), False)

    def test_thirty_six_states_and_a_thousand_signs(self):
        many = 36
        turner = ([[[("a", (k + 1) % many)], [("", k)]] for k in range(many)], [["b" * 12]] * many)
        diagonal = [(k, k, "", "") for k in range(many)]
        self.assertIs(is_one_paper("ab", turner, diagonal, []), True)
        self.assertIs(is_one_paper("ab", turner, diagonal[:-1], []), False)
        every = [(p, q, "", "") for p in range(many) for q in range(many)]
        self.assertIs(is_one_paper("ab", turner, every, []), True)
        self.assertIs(is_one_paper("ab", turner, diagonal[:-1] + [(35, 35, "a" * 1000, "")], []), False)
        apart = ([[[("a", 0)]], [[("a", 1)]]], [["a"], []])
        self.assertIs(is_one_paper("a", apart, [(0, 0, "", ""), (0, 1, "a" * 1000, ""), (1, 0, "", "a" * 1000)], []), True)


class TwoAnswersTest(unittest.TestCase):
    def test_made_up_turners(self):
        for letters, turner in some_turners(627, 80):
            for word in all_words(letters, 2):
                told = answers(letters, turner, word)
                for one in all_words(letters, 2) + told[:2]:
                    for other in all_words(letters, 1) + told[-2:]:
                        self.assertIs(is_two_answers(letters, turner, word, one, other),
                                      one in told and other in told and one != other)

    def test_long_words(self):
        turner = ([[[("a" * 12, 0), ("ab" * 6, 0)]]], [[""]])
        self.assertIs(is_two_answers("ab", turner, "a" * 80, "a" * 960, "ab" * 480), True)
        self.assertIs(is_two_answers("ab", turner, "a" * 80, "a" * 960, "ab" * 481), False)
        self.assertIs(is_two_answers("ab", turner, "a" * 80, "a" * 960, "a" * 960), False)
        self.assertIs(is_two_answers("ab", turner, "a" * 79, "a" * 948, "ab" * 480), False)

    def test_nothing_modified(self):
        told = check_new(self, one_answer, "ab", WAITING)
        self.assertEqual(len(lists_in(told)), 2)
        check_new(self, one_answer, "ab", one_move("ab"))
        check_new(self, is_one_paper, "ab", WAITING, *told[1])
        check_new(self, is_two_answers, "ab", one_move("ab"), "a", "", "ab")


if __name__ == "__main__":
    unittest.main()
