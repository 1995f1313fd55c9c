"""What points 146 and 147 promise over the whole program."""

import random
import unittest

from drawn import some_source
from growing import some_sheet
from helpers import some_machine, some_machines, some_plain_rules
from turning import some_turner

from hallofwords.again import again, counts, is_again_paper, is_count_paper, is_promise, promise
from hallofwords.answers import is_one_paper, is_two_answers, one_answer
from hallofwords.apart import between, pair_numbers, shows_between
from hallofwords.asking import Learner
from hallofwords.back import rule_of
from hallofwords.bounds import is_high, is_high_means, is_low, is_low_means
from hallofwords.chances import chances_from, means_from
from hallofwords.deciding import first_of, is_pair_paper, pair_paper, parting_word
from hallofwords.errors import BadSize, HallError, TooDeep, TooGreat, TooMany
from hallofwords.folds import denied, joined, met, turned
from hallofwords.games import bring, is_keep_paper, is_rank_paper, keep_paper
from hallofwords.growth import growth, growth_paper, is_growth_paper
from hallofwords.hall import Hall
from hallofwords.leads import first_astray, is_astray, is_lead_paper, lead_paper
from hallofwords.learning import clash_tree, fits, is_clash_tree, least_fit
from hallofwords.leastness import access_words, fault_of, is_fault, is_leastness_paper, parting_words
from hallofwords.machines import is_taken, least
from hallofwords.making import machine_of
from hallofwords.merging import merged_fit, sample_of
from hallofwords.near import around, distance, moves_of, numbers_of, shows_distance
from hallofwords.odds import best_chances, best_choice, is_high_odds, is_low_odds
from hallofwords.positions import double_paper, is_double_paper, two_ways
from hallofwords.powers import is_rest_paper, is_ring, rest_paper, ring_of
from hallofwords.reading import read_machine
from hallofwords.sheets import machine_of_sheet, sheet_of
from hallofwords.trees import is_tree, trees
from hallofwords.turners import domain, images, same_of
from hallofwords.ways import is_way
from hallofwords.within import is_sheet_paper, outside_word, sheet_paper
from hallofwords.writing import write_machine


def learned(letters, machine):
    learner = Learner(letters)
    while learner.question()[0] != "done":
        kind, asked = learner.question()
        learner.answer(is_taken(letters, machine, asked) if kind == "word" else parting_word(letters, asked, machine))
    return learner.question()[1]


def kept_in_hall(letters, machine):
    hall = Hall(letters)
    hall.put("m", rule_of(letters, machine))
    return hall.machine("m")


# Each road with the errors that the document tells for it.
ROADS = {
    "text": (lambda letters, m: least(letters, read_machine(letters, write_machine(m))), ()),
    "denied twice": (lambda letters, m: denied(letters, denied(letters, m)), ()),
    "turned twice": (lambda letters, m: turned(letters, turned(letters, m)), (TooGreat,)),
    "met": (lambda letters, m: met(letters, [m, m]), ()),
    "joined": (lambda letters, m: joined(letters, [m, m]), ()),
    "rule": (lambda letters, m: machine_of(letters, rule_of(letters, m)), (BadSize, TooDeep, TooMany, TooGreat)),
    "sheet": (lambda letters, m: machine_of_sheet(letters, sheet_of(letters, m)), (BadSize,)),
    "domain": (lambda letters, m: domain(letters, same_of(letters, m)), (BadSize,)),
    "images": (lambda letters, m: images(letters, same_of(letters, m)), (BadSize,)),
    "around": (lambda letters, m: around(letters, m, 0), (BadSize,)),
    "merging": (lambda letters, m: merged_fit(letters, *sample_of(letters, m)), (BadSize,)),
    "asking": (learned, (TooGreat,)),
    "hall": (kept_in_hall, (BadSize, TooDeep, TooMany, TooGreat)),
}


class RoadsTest(unittest.TestCase):
    def test_all_roads_lead_to_the_least_machine(self):
        came = {road: 0 for road in ROADS}
        failed = {road: 0 for road in ROADS}
        rng = random.Random(2501)
        machines = list(some_machines(2502, 60, most=7))
        for _ in range(40):
            letters = rng.choice(["a", "ab", "abcdef"])
            machines.append((letters, some_machine(rng, letters, rng.choice([12, 25, 45, 60]))))
        for letters, machine in machines:
            lesser = least(letters, machine)
            for road, (go, errors) in ROADS.items():
                try:
                    found = go(letters, machine)
                except HallError as error:
                    self.assertIn(type(error), errors, road)
                    failed[road] += 1
                    continue
                self.assertEqual(found, lesser, road)
                came[road] += 1
        self.assertGreater(min(came.values()), 40)
        self.assertGreater(failed["asking"], 3)
        self.assertGreater(failed["merging"], 5)
        self.assertGreater(failed["domain"], 1)


class NeverBothTest(unittest.TestCase):
    def setUp(self):
        self.seen = {True: 0, False: 0}

    def tell(self, yes, no):
        """One of the two holds, and not the other one."""
        self.assertIs(yes, not no)
        self.seen[yes] += 1

    def check_both_were_seen(self, number=8):
        self.assertGreater(min(self.seen.values()), number)

    def test_within(self):
        for letters, first in some_machines(2511, 80, most=3):
            second = some_machine(random.Random(repr(first)), letters, 2)
            paper, word = pair_paper(letters, first, second), first_of(letters, first, second)
            self.tell(paper is not None and is_pair_paper(letters, first, second, paper),
                      word is not None and is_taken(letters, first, word) and not is_taken(letters, second, word))
        self.check_both_were_seen()

    def test_least(self):
        for letters, machine in some_machines(2512, 80, most=4):
            fault = fault_of(letters, machine)
            if fault is None:
                right = is_leastness_paper(letters, machine, access_words(letters, machine),
                                           parting_words(letters, machine))
                self.tell(right, False)
            else:
                self.tell(False, is_fault(letters, machine, fault))
        self.check_both_were_seen()

    def test_ways(self):
        for letters, rule in some_plain_rules(2513, 200, depth=2):
            try:
                paper, told = double_paper(letters, rule), two_ways(letters, rule)
            except BadSize:
                continue
            shown = told is not None and told[1] != told[2] and all(
                is_way(letters, rule, told[0], way) for way in told[1:])
            self.tell(paper is not None and is_double_paper(letters, rule, paper), shown)
        self.check_both_were_seen()

    def test_growth(self):
        for letters, machine in some_machines(2514, 60):
            told, paper = growth(letters, machine), growth_paper(letters, machine)
            self.assertEqual(paper is None, told[0] == "more")
            self.assertTrue(is_growth_paper(letters, machine, told, paper))
            other = ("power", 1) if told[0] == "finite" else ("finite", 3)
            if paper is not None:
                self.assertFalse(is_growth_paper(letters, machine, other, paper))

    def test_far_away(self):
        rng = random.Random(2515)
        for letters, machine in some_machines(2516, 40):
            word = "".join(rng.choice(letters) for _ in range(4))
            cost, moves = distance(letters, machine, word), moves_of(letters, machine, word)
            numbers = numbers_of(letters, machine, word)
            self.assertTrue(shows_distance(letters, machine, word, cost, moves, numbers))
            self.assertFalse(shows_distance(letters, machine, word, 1 if cost is None else cost + 1, moves, numbers))
            other = some_machine(rng, letters, 4)
            told = between(letters, machine, other) or (None, None)
            numbers = pair_numbers(letters, machine, other)
            self.assertTrue(shows_between(letters, machine, other, told[0], told[1], numbers))

    def test_answers_and_leads(self):
        rng = random.Random(2517)
        leads = {True: 0, False: 0}
        for _ in range(120):
            letters = rng.choice(["a", "ab"])
            turner = some_turner(rng, letters, states=2)
            is_one, told = one_answer(letters, turner)
            self.tell(is_one and is_one_paper(letters, turner, *told),
                      not is_one and is_two_answers(letters, turner, *told))
            first, second = some_machine(rng, letters, 3), some_machine(rng, letters, 3)
            paper = lead_paper(letters, first, turner, second)
            astray = first_astray(letters, first, turner, second)
            yes = paper is not None and is_lead_paper(letters, first, turner, second, paper)
            self.assertIs(yes, not (astray is not None and is_astray(letters, first, turner, second, *astray)))
            leads[yes] += 1
        self.check_both_were_seen()
        self.assertGreater(min(leads.values()), 8)

    def test_fits(self):
        rng = random.Random(2518)
        for _ in range(80):
            words = ["".join(rng.choice("ab") for _ in range(rng.randint(0, 4))) for _ in range(rng.randint(0, 12))]
            yes, no = words[::2], words[1::2]
            tree, machine = clash_tree("ab", yes, no, 3), least_fit("ab", yes, no, 3)
            self.tell(tree is not None and is_clash_tree("ab", yes, no, 3, tree),
                      machine is not None and fits("ab", machine, yes, no) and len(machine[0]) <= 3)
        self.check_both_were_seen()

    def test_games(self):
        often = {True: 0, False: 0}
        many = {True: 0, False: 0}
        for letters, machine in some_machines(2519, 200, most=4):
            for who in (0, 1):
                ranks, kept = bring(letters, machine, who=who), keep_paper(letters, machine, who=who)
                self.tell(is_rank_paper(letters, machine, ranks, who=who),
                          kept is not None and is_keep_paper(letters, machine, kept, who=who))
                numbers, again_ranks = counts(letters, machine, who=who), again(letters, machine, who=who)
                yes = is_again_paper(letters, machine, again_ranks, who=who)
                self.assertIs(yes, not is_count_paper(letters, machine, numbers, who=who))
                often[yes] += 1
                told = promise(letters, machine, 2, who=who)
                yes = told is not None and is_promise(letters, machine, 2, told, who=who)
                self.assertIs(yes, not (is_count_paper(letters, machine, numbers, who=who) and numbers[0][0] < 2))
                many[yes] += 1
        self.check_both_were_seen()
        self.assertGreater(min(list(often.values()) + list(many.values())), 30)

    def test_what_is_drawn(self):
        rng = random.Random(2520)
        for letters, machine in some_machines(2521, 60, most=4):
            source = some_source(rng, letters)
            chances, means = chances_from(letters, source, machine), means_from(letters, source, machine)
            self.assertTrue(is_high(letters, source, machine, chances) and is_low(letters, source, machine, chances))
            self.assertIs(is_high_means(letters, source, machine, means), means[0] is not None)
            self.assertTrue(is_low_means(letters, source, machine, [mean or (0, 1) for mean in means]))
            for who in (0, 1):
                odds, choice = best_chances(letters, source, machine, who=who), best_choice(
                    letters, source, machine, who=who)
                self.assertTrue(is_high_odds(letters, source, machine, odds, who=who))
                self.assertTrue(is_low_odds(letters, source, machine, choice, odds, who=who))

    def test_sheets(self):
        rng = random.Random(2522)
        for _ in range(150):
            letters = rng.choice(["a", "ab"])
            sheet, machine = some_sheet(rng, letters), some_machine(rng, letters, 3)
            paper, word = sheet_paper(letters, sheet, machine), outside_word(letters, sheet, machine)
            shown = word is not None and not is_taken(letters, machine, word)
            if shown and len(word) <= 24:
                try:
                    tree = trees(letters, sheet, word, most=1)[0]
                    self.assertTrue(is_tree(letters, sheet, word, tree))
                except HallError:
                    pass
            self.tell(paper is not None and is_sheet_paper(letters, sheet, machine, paper), shown)
        self.check_both_were_seen()

    def test_rests(self):
        for letters, machine in some_machines(2523, 100, most=4):
            paper, ring = rest_paper(letters, machine), ring_of(letters, machine)
            self.tell(paper is not None and is_rest_paper(letters, machine, paper),
                      ring is not None and is_ring(letters, machine, *ring))
        self.check_both_were_seen()


if __name__ == "__main__":
    unittest.main()
