import itertools
import random
import unittest

from helpers import all_words, check_new, counter, cycle, some_machines

from hallofwords.growth import growth, growth_paper, is_growth_paper
from hallofwords.machines import least, run_from
from hallofwords.making import machine_of, word_machine
from hallofwords.numbers import upto
from hallofwords.recurrences import recurrence

NOTHING = ([[0, 0]], [False])
A, B = ("one", "a"), ("one", "b")


def led(machine, letters, state, word):
    for sign in word:
        state = machine[0][state][letters.index(sign)]
    return state


def behind(machine, state):
    """The states to which words lead from this one, itself among them."""
    found = [state]
    for one in found:
        found += [reached for reached in dict.fromkeys(machine[0][one]) if reached not in found]
    return found


def useful(machine):
    return [state in behind(machine, 0) and any(machine[1][k] for k in behind(machine, state))
            for state in range(len(machine[0]))]


def staying(letters, machine):
    kept = useful(machine)
    return ["".join(sign for sign, reached in zip(letters, row) if kept[state] and state in behind(machine, reached))
            for state, row in enumerate(machine[0])]


def first_word(letters, machine, state, holds, most=12):
    for length in range(most + 1):
        for signs in itertools.product(letters, repeat=length):
            if holds(led(machine, letters, state, signs)):
                return "".join(signs)
    raise AssertionError


def slow_growth(letters, machine):
    """The growth, straight from points 46 to 48."""
    stay = staying(letters, machine)
    if max(map(len, stay)) > 1:
        begin = first_word(letters, machine, 0, lambda state: len(stay[state]) > 1)
        state = led(machine, letters, 0, begin)
        one, other = [sign + first_word(letters, machine, led(machine, letters, state, sign), lambda k: k == state)
                      for sign in stay[state][:2]]
        return ("more", begin, state, one + other, other + one,
                first_word(letters, machine, state, lambda k: machine[1][k]))
    if max(map(len, stay)) == 1:
        return ("power", most_rings(letters, machine, 0, stay))
    return ("finite", upto(letters, machine, 60))


def ring(letters, machine, state, stay):
    """The states of the ring on which the state lies, none if it lies on none."""
    found = []
    while stay[state] and state not in found:
        found.append(state)
        state = led(machine, letters, state, stay[state])
    return found


def most_rings(letters, machine, state, stay):
    """The greatest number of rings on a way from the useful state; the ways are gone through ring by ring."""
    kept = useful(machine)
    around = ring(letters, machine, state, stay)
    ways = [most_rings(letters, machine, reached, stay) for one in around or [state]
            for sign, reached in zip(letters, machine[0][one]) if kept[reached] and sign not in stay[one]]
    return max(ways, default=0) + bool(around)


def most_leaving(letters, machine, state, stay):
    kept = useful(machine)
    around = ring(letters, machine, state, stay)
    return max([most_leaving(letters, machine, reached, stay) + 1 for one in around or [state]
                for sign, reached in zip(letters, machine[0][one]) if kept[reached] and sign not in stay[one]], default=0)


def slow_paper(letters, machine):
    """The paper, straight from point 50."""
    stay = staying(letters, machine)
    kept = useful(machine)
    states = range(len(kept))
    heights = [most_leaving(letters, machine, k, stay) if kept[k] else None for k in states]
    rings = [most_rings(letters, machine, k, stay) if kept[k] else None for k in states]
    chain = []
    state = 0
    for number in range(rings[0] or 0, 0, -1):
        word = first_word(letters, machine, state, lambda k: stay[k] and rings[k] == number)
        state = led(machine, letters, state, word)
        turn = stay[state] + first_word(letters, machine, led(machine, letters, state, stay[state]), lambda k: k == state)
        chain.append((word, turn))
    return ([signs or None for signs in stay], heights, rings, chain)


def slow_right(letters, machine, told, paper):
    """Whether the paper is right for "finite" or "power", straight from point 49."""
    turns, heights, rings, chain = paper
    many = len(machine[0])
    if not len(turns) == len(heights) == len(rings) == many:
        return False
    kept = useful(machine)
    for state in range(many):
        if not kept[state]:
            if (turns[state], heights[state], rings[state]) != (None, None, None):
                return False
            continue
        if heights[state] is None or rings[state] is None or heights[state] < 0 or rings[state] < 0:
            return False
        if turns[state] is not None and not kept[led(machine, letters, state, turns[state])]:
            return False
    for state in range(many):
        if kept[state]:
            back = led_by_turns_back(letters, machine, turns, state)
            if back and rings[state] < 1:
                return False
            for sign, reached in zip(letters, machine[0][state]):
                if kept[reached]:
                    if heights[reached] > heights[state] or rings[reached] > rings[state]:
                        return False
                    if sign != turns[state] and heights[reached] == heights[state]:
                        return False
                    if back and sign != turns[state] and rings[reached] == rings[state]:
                        return False
    state = 0
    met = []
    for word, turn in chain:
        state = led(machine, letters, state, word)
        if not kept[state] or not turn or led(machine, letters, state, turn) != state:
            return False
        if any(other in behind(machine, state) and state in behind(machine, other) for other in met):
            return False
        met.append(state)
    if len(chain) != (rings[0] if kept[0] else 0):
        return False
    if told[0] == "power":
        return told[1] == len(chain) >= 1
    return chain == [] and told[1] == upto(letters, machine, 60)


def led_by_turns_back(letters, machine, turns, state):
    reached = state
    for _ in turns:
        if turns[reached] is None:
            return False
        reached = led(machine, letters, reached, turns[reached])
        if reached == state:
            return True
    return False


def sparse_machines(seed, number, letters="ab", many=(2, 7)):
    """Machines that mostly go on to greater states or to the last one, from which no end is reached."""
    rng = random.Random(seed)
    for _ in range(number):
        size = rng.randint(*many)
        table = []
        for state in range(size - 1):
            row = []
            for _ in letters:
                chance = rng.random()
                if chance < 0.3:
                    row.append(rng.randint(max(0, state - 2), state))
                else:
                    row.append(rng.randint(state, size - 1) if chance < 0.75 else size - 1)
            table.append(row)
        yield letters, (table + [[size - 1] * len(letters)], [rng.random() < 0.5 for _ in range(size - 1)] + [False])


def with_answers(seed, number, kinds=("power", "finite")):
    for letters, machine in [*sparse_machines(seed, number), *sparse_machines(seed, number // 2, "ba"),
                             *sparse_machines(seed, number // 2, "abc", (3, 9))]:
        told = growth(letters, machine)
        if told[0] in kinds:
            yield letters, machine, told


class GrowthTest(unittest.TestCase):
    def test_examples(self):
        for rule, told in (
            (("none",), ("finite", 0)),
            (("empty",), ("finite", 1)),
            (("row", [("one", "ab")] * 3), ("finite", 8)),
            (("times", ("one", "ab"), 0, 4), ("finite", 31)),
            (("times", A, 0, None), ("power", 1)),
            (("times", ("row", [A, B]), 0, None), ("power", 1)),
            (("row", [("times", A, 0, None), ("times", B, 0, None)]), ("power", 2)),
            (("row", [("times", A, 0, None), B, ("times", A, 0, None), B, ("times", ("row", [B, A]), 0, None)]),
             ("power", 3)),
            (("times", ("one", "ab"), 0, None), ("more", "", 0, "ab", "ba", "")),
            (("times", ("either", [A, ("row", [B, B])]), 0, None), ("more", "", 0, "abb", "bba", "")),
        ):
            self.assertEqual(growth("ab", machine_of("ab", rule)), told, rule)
        self.assertEqual(growth("ab", NOTHING), ("finite", 0))
        self.assertEqual(growth("a", cycle(60, 59)), ("power", 1))
        self.assertEqual(growth("a", counter(58)), ("finite", 1))
        self.assertEqual(growth("abcdef", ([[k + 1] * 6 for k in range(59)] + [[59] * 6], [True] * 59 + [False])),
                         ("finite", sum(6 ** k for k in range(59))))

    def test_more(self):
        machine = ([[3, 1, 3], [3, 2, 2], [1, 3, 4], [3, 3, 3], [2, 4, 2]], [False, False, False, False, True])
        self.assertEqual(growth("abc", machine), ("more", "b", 1, "baca", "caba", "bc"))
        self.assertEqual(growth("cba", machine)[:3], ("more", "b", 1))
        # Both letters lead to the same state.
        self.assertEqual(growth("ab", ([[1, 1], [0, 0]], [False, True])), ("more", "", 0, "aaba", "baaa", "a"))

    def test_made_up_machines(self):
        kinds = {}
        for letters, machine in [*some_machines(421, 300), *sparse_machines(422, 300), *sparse_machines(423, 100, "abc")]:
            told = growth(letters, machine)
            self.assertEqual(told, slow_growth(letters, machine), (letters, machine))
            kinds[told[:1 if told[0] == "finite" else 2]] = 1
            lesser = growth(letters, least(letters, machine))
            self.assertEqual(told[0], lesser[0])
            if told[0] == "more":
                _, begin, state, first, second, end = told
                for signs in itertools.product([first, second], repeat=3):
                    word = begin + "".join(signs) + end
                    self.assertTrue(machine[1][led(machine, letters, 0, word)])
            else:
                self.assertEqual(told, lesser)
        for kind in (("finite",), ("power", 1), ("power", 2), ("power", 3)):
            self.assertIn(kind, kinds)

    def test_states_that_are_not_useful(self):
        # Both letters stay at the states 2 and 3: 2 leads to no end, and 3 is not reached.
        machine = ([[0, 1], [2, 2], [2, 2], [3, 3]], [False, True, False, True])
        self.assertEqual(growth("ab", machine), ("power", 1))
        self.assertEqual(growth_paper("ab", machine),
                         (["a", None, None, None], [1, 0, None, None], [1, 0, None, None], [("", "a")]))

    def test_point_52(self):
        for letters, machine, told in with_answers(424, 120, ("power", "finite", "more")):
            numbers, _ = recurrence(letters, machine)
            polynomial = [1] + [-number for number in numbers]
            if told[0] == "finite":
                self.assertEqual(numbers, [])
                continue
            lengths = 840
            degrees = [d for d in range(8) if self.divides(polynomial, lengths, d)]
            if told[0] == "more":
                self.assertEqual(degrees, [])
            else:
                self.assertEqual(degrees[:1], [told[1]])

    def divides(self, polynomial, p, d):
        """Whether the polynomial, greatest power first, divides (x ** p - 1) ** d."""
        rest = [1]
        many = len(polynomial) - 1
        power = [0] * many
        # The rest of x ** p by the polynomial, multiplied by hand.
        power = self.rest([1] + [0] * p, polynomial)
        power = ([0] * many + power)[-many:] if many else []
        if many:
            power[-1] -= 1
        for _ in range(d):
            product = [0] * (len(rest) + len(power))
            for i, one in enumerate(rest):
                for j, other in enumerate(power):
                    product[i + j + 1] += one * other
            rest = self.rest(product, polynomial)
        return not any(self.rest(rest, polynomial))

    def rest(self, values, polynomial):
        values = list(values)
        many = len(polynomial) - 1
        while len(values) > many:
            greatest = values.pop(0)
            for k in range(many):
                values[k] -= greatest * polynomial[k + 1]
        return values


class PaperTest(unittest.TestCase):
    def test_made_up_machines(self):
        for letters, machine in [*some_machines(425, 200), *sparse_machines(426, 300), *sparse_machines(427, 80, "abc")]:
            told = growth(letters, machine)
            paper = growth_paper(letters, machine)
            if told[0] == "more":
                self.assertIsNone(paper)
            else:
                self.assertEqual(paper, slow_paper(letters, machine), (letters, machine))
                self.assertTrue(slow_right(letters, machine, told, paper))
            self.assertIs(is_growth_paper(letters, machine, told, paper), True)

    def test_examples(self):
        rule = ("row", [("times", A, 0, None), B, ("times", ("row", [A, B, B]), 0, None)])
        machine = machine_of("ab", rule)
        self.assertEqual(machine, ([[0, 1], [2, 3], [3, 4], [3, 3], [3, 1]], [False, True, False, False, False]))
        self.assertEqual(growth_paper("ab", machine),
                         (["a", "a", "b", None, "b"], [1, 0, 0, None, 0], [2, 1, 1, None, 1], [("", "a"), ("b", "abb")]))
        self.assertEqual(growth_paper("ab", NOTHING), ([None], [None], [None], []))
        self.assertEqual(growth_paper("ab", word_machine("ab", ["ab"])),
                         ([None] * 4, [2, 1, None, 0], [0, 0, None, 0], []))

    def test_state_0_not_useful(self):
        machine = ([[0, 1], [1, 0], [2, 2]], [False, False, True])
        self.assertEqual(growth("ab", machine), ("finite", 0))
        paper = ([None] * 3, [None] * 3, [None] * 3, [])
        self.assertEqual(growth_paper("ab", machine), paper)
        self.assertIs(is_growth_paper("ab", machine, ("finite", 0), paper), True)
        for told in (("finite", 1), ("power", 0), ("power", 1), ("finite", -1)):
            self.assertIs(is_growth_paper("ab", machine, told, paper), False)
        for wrong in (([None] * 3, [None] * 3, [None] * 3, [("", "a")]), ([None] * 3, [0] * 3, [0] * 3, []),
                      (["a"] + [None] * 2, [None] * 3, [None] * 3, []), ([None] * 2, [None] * 2, [None] * 2, [])):
            for told in (("finite", 0), ("power", 1)):
                self.assertIs(is_growth_paper("ab", machine, told, wrong), False)

    def test_other_right_papers(self):
        machine = machine_of("ab", ("row", [("times", A, 0, None), B, ("times", ("row", [A, B, B]), 0, None)]))
        for paper in (
            (["a", "a", "b", None, "b"], [10 ** 40, 5, 5, None, 5], [2, 1, 1, None, 1], [("", "a"), ("b", "abb")]),
            (["a", "a", "b", None, "b"], [1, 0, 0, None, 0], [2, 1, 1, None, 1], [("aaaa", "aa"), ("bab", "bab")]),
            (["a", "a", "b", None, "b"], [1, 0, 0, None, 0], [2, 1, 1, None, 1], [("", "a" * 99), ("abab", "babbab")]),
        ):
            self.assertIs(is_growth_paper("ab", machine, ("power", 2), paper), True, paper)
            for told in (("power", 1), ("power", 3), ("finite", 2), ("power", 10 ** 30), ("power", -2)):
                self.assertIs(is_growth_paper("ab", machine, told, paper), False)
        # A turn where no letter stays, and a number in rings that is greater than it has to be behind the chain.
        machine = word_machine("ab", ["ab"])
        for turns in itertools.product([None, "a"], [None, "b"], [None], [None]):
            for heights in ([2, 1, None, 0], [7, 5, None, 3], [0, 0, None, 0], [1, 1, None, 0], [2, 2, None, 1]):
                paper = (list(turns), heights, [0, 0, None, 0], [])
                right = slow_right("ab", machine, ("finite", 1), paper)
                self.assertIs(is_growth_paper("ab", machine, ("finite", 1), paper), right)
        self.assertIs(is_growth_paper("ab", machine, ("finite", 1), (["a", "b", None, None], [0, 0, None, 0],
                                                                     [0, 0, None, 0], [])), True)

    def test_each_condition_alone(self):
        machine = machine_of("ab", ("row", [("times", A, 0, None), B, ("times", ("row", [A, B, B]), 0, None)]))
        turns, heights, rings, chain = growth_paper("ab", machine)
        for wrong in (
            (turns[:-1], heights, rings, chain),
            (turns + [None], heights, rings, chain),
            (turns, heights[:-1], rings, chain),
            (turns, heights, rings + [None], chain),
            (["a", "a", "b", "a", "b"], heights, rings, chain),
            (turns, [1, 0, 0, 0, 0], rings, chain),
            (turns, heights, [2, 1, 1, 0, 1], chain),
            (turns, [1, 0, None, None, 0], rings, chain),
            (turns, heights, [2, None, 1, None, 1], chain),
            (turns, [0, -1, -1, None, -1], rings, chain),
            (["a", "b", "b", None, "b"], heights, rings, chain),
            (["a", "a", "a", None, "b"], [9, 2, 1, None, 0], rings, chain),
            (["a", None, "b", None, "b"], heights, rings, chain),
            (["b", "a", "b", None, "b"], heights, rings, chain),
            (turns, [0, 0, 0, None, 0], rings, chain),
            (turns, [1, 0, 0, None, 1], rings, chain),
            (turns, [1, 1, 0, None, 0], rings, chain),
            (turns, heights, [1, 1, 1, None, 1], chain[:1]),
            (turns, heights, [1, 0, 0, None, 0], chain[:1]),
            (turns, heights, [3, 1, 1, None, 1], chain),
            (turns, heights, [2, 2, 1, None, 1], chain),
            (turns, heights, rings, chain[:1]),
            (turns, heights, rings, chain[::-1]),
            (turns, heights, rings, chain + [("", "abb")]),
            (turns, heights, rings, [("", "a"), ("", "a")]),
            (turns, heights, rings, [("", "a"), ("a", "a")]),
            (turns, heights, rings, [("b", "abb"), ("a", "bba")]),
            (turns, heights, rings, [("", ""), ("b", "abb")]),
            (turns, heights, rings, [("", "a"), ("b", "")]),
            (turns, heights, rings, [("", "a"), ("b", "ab")]),
            (turns, heights, rings, [("", "a"), ("bb", "a")]),
            (turns, heights, rings, [("", "b"), ("b", "abb")]),
            (turns, heights, rings, []),
        ):
            self.assertIs(is_growth_paper("ab", machine, ("power", 2), wrong), False, wrong)
        self.assertIs(is_growth_paper("ab", machine, ("power", 2), (turns, heights, rings, chain)), True)

    def test_changed_papers(self):
        rng = random.Random(428)
        seen = {True: 0, False: 0}
        for letters, machine, told in with_answers(429, 150):
            paper = growth_paper(letters, machine)
            for _ in range(25):
                lists = [list(part) for part in paper]
                for _ in range(rng.randint(1, 2)):
                    self.change(rng, letters, lists)
                other = told if rng.random() < 0.8 else (rng.choice(["power", "finite"]), told[1] + rng.choice([-1, 0, 1]))
                right = slow_right(letters, machine, other, tuple(lists))
                seen[right] += 1
                self.assertIs(is_growth_paper(letters, machine, other, tuple(lists)), right, (machine, other, lists))
        self.assertGreater(min(seen.values()), 100)

    def change(self, rng, letters, lists):
        which = rng.randrange(4)
        part = lists[which]
        at = rng.randrange(len(part)) if part else 0
        if which == 3:
            words = ["", *letters, "ab", "ba", "aab", "bb"]
            pair = (rng.choice(words), rng.choice(words))
            if not part or rng.random() < 0.3:
                part.insert(at, pair)
            elif rng.random() < 0.3:
                del part[at]
            else:
                part[at] = (part[at][0], pair[1] * 2) if rng.random() < 0.5 else (pair[0], part[at][1])
        elif which == 0:
            part[at] = rng.choice([None, *letters])
        elif part[at] is None or rng.random() < 0.2:
            part[at] = rng.choice([None, 0, 1])
        else:
            part[at] += rng.choice([-1, 1, 1, 2])

    def test_no_paper_beside_more(self):
        rng = random.Random(430)
        for letters, machine, told in with_answers(431, 60, ("more",)):
            many = len(machine[0])
            for _ in range(15):
                paper = ([rng.choice([None, *letters]) for _ in range(many)],
                         [rng.choice([None, 0, 1, 2]) for _ in range(many)],
                         [rng.choice([None, 0, 1, 2]) for _ in range(many)], [("", "a")] * rng.randrange(3))
                for answer in (("power", 1), ("power", 2), ("finite", 3)):
                    self.assertIs(is_growth_paper(letters, machine, answer, paper), False)


class MoreTest(unittest.TestCase):
    def test_right_and_wrong_answers(self):
        machine = ([[3, 1, 3], [3, 2, 2], [1, 3, 4], [3, 3, 3], [2, 4, 2]], [False, False, False, False, True])
        for begin, state, first, second, end in (
            ("b", 1, "baca", "caba", "bc"),
            ("b", 1, "ba", "ca", "cc"),
            ("bbaba", 1, "baba", "baca", "bcbbb"),
            ("bb", 2, "ab", "ac", "c"),
            ("bb", 2, "ab", "ca", "c"),
            ("bbc", 4, "bb", "ac", ""),
            ("bbc", 4, "a" + "b" * 3 + "c", "cbccb", ""),
        ):
            told = ("more", begin, state, first, second, end)
            right = (led(machine, "abc", 0, begin) == state and first != second and len(first) == len(second)
                     and led(machine, "abc", state, first) == led(machine, "abc", state, second) == state
                     and machine[1][led(machine, "abc", state, end)])
            self.assertIs(is_growth_paper("abc", machine, told, None), right, told)
        good = ("more", "b", 1, "ba", "ca", "bc")
        self.assertIs(is_growth_paper("abc", machine, good, None), True)
        for wrong in (
            ("more", "", 1, "ba", "ca", "bc"),
            ("more", "b", 2, "ba", "ca", "bc"),
            ("more", "b", -4, "ba", "ca", "bc"),
            ("more", "b", 10 ** 30, "ba", "ca", "bc"),
            ("more", "b", 1, "ba", "ba", "bc"),
            ("more", "b", 1, "", "", "bc"),
            ("more", "b", 1, "ba", "caba", "bc"),
            ("more", "b", 1, "ba", "bb", "bc"),
            ("more", "b", 1, "bb", "ca", "bc"),
            ("more", "b", 1, "ba", "ca", "b"),
            ("more", "b", 1, "ba", "ca", ""),
        ):
            self.assertIs(is_growth_paper("abc", machine, wrong, None), False, wrong)

    def test_beside_other_growths(self):
        words = all_words("ab", 2)
        for letters, machine, told in with_answers(432, 30):
            if letters == "ab":
                for begin, first, second in itertools.product(words, repeat=3):
                    state = run_from(letters, machine, 0, begin)
                    answer = ("more", begin, state, first, second, "")
                    self.assertIs(is_growth_paper(letters, machine, answer, None), False)

    def test_nothing_modified(self):
        machine = machine_of("ab", ("row", [("times", A, 0, None), B, ("times", ("row", [A, B, B]), 0, None)]))
        check_new(self, growth, "ab", machine)
        paper = check_new(self, growth_paper, "ab", machine)
        check_new(self, is_growth_paper, "ab", machine, ("power", 2), paper)
        check_new(self, growth, "ab", ([[0, 0]], [True]))


if __name__ == "__main__":
    unittest.main()
