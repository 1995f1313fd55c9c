"""Sheets that are made up, and slow answers about them, straight from points 124 to 136."""

import itertools
import random


class Endless(Exception):
    """There are endlessly many trees."""


def some_body(rng, letters, names, depth, one_sided=False, last=True):
    """A body; where it has to be one-sided, names stand in last rules alone."""
    may_name = last or not one_sided
    kinds = ["one", "one", "empty"] + ["name", "name"] * may_name
    if depth:
        kinds += ["row", "row", "row", "either", "either", "either"]
    kind = rng.choice(kinds)
    if kind == "one":
        return ("one", "".join(sign for sign in letters if rng.random() < 0.5) or rng.choice(letters))
    if kind == "name":
        return ("name", rng.choice(names))
    if kind == "empty":
        return ("empty",)
    many = rng.choice([1, 2, 2, 2, 3])
    rules = []
    for place in range(many):
        inner_last = last and (kind == "either" or place == many - 1)
        rules.append(some_body(rng, letters, names, depth - 1, one_sided, inner_last))
    return (kind, rules)


def some_sheet(rng, letters, most=3, depth=3, one_sided=False):
    names = ["s", "t2", "u"][:rng.randint(1, most)]
    while True:
        sheet = [(name, some_body(rng, letters, names, depth, one_sided)) for name in names]
        if sum(size(body) for _, body in sheet) <= 60:
            return sheet


def some_sheets(seed, number, letters=("a", "ab", "ba", "abc"), **told):
    rng = random.Random(seed)
    for _ in range(number):
        chosen = rng.choice(letters)
        yield rng, chosen, some_sheet(rng, chosen, **told)


def size(rule):
    return 1 + (sum(size(part) for part in rule[1]) if rule[0] in ("row", "either") else 0)


def of_rule(rule, told, most):
    """The words of at most so many signs of a rule, where told has those of the names."""
    if rule[0] == "empty":
        return {""}
    if rule[0] == "one":
        return set(rule[1]) if most else set()
    if rule[0] == "name":
        return told[rule[1]]
    inner = [of_rule(part, told, most) for part in rule[1]]
    if rule[0] == "either":
        return set().union(*inner)
    found = {""}
    for words in inner:
        found = {one + other for one in found for other in words if len(one) + len(other) <= most}
    return found


def words_of(sheet, most):
    """For each name the set of its words of at most so many signs."""
    told = {name: set() for name, _ in sheet}
    while True:
        more = {name: of_rule(body, told, most) for name, body in sheet}
        if more == told:
            return told
        told = more


class Growing:
    """All trees of a sheet for one word, one after the other."""

    def __init__(self, sheet, word):
        self.bodies = dict(sheet)
        self.head = sheet[0][0]
        self.word = word
        pieces = {word[b:e] for b in range(len(word) + 1) for e in range(b, len(word) + 1)}
        self.told = {name: set() for name in self.bodies}
        while True:
            more = {name: {piece for piece in pieces if self.has(body, piece)} for name, body in sheet}
            if more == self.told:
                break
            self.told = more

    def has(self, rule, piece):
        if rule[0] == "empty":
            return piece == ""
        if rule[0] == "one":
            return len(piece) == 1 and piece in rule[1]
        if rule[0] == "name":
            return piece in self.told[rule[1]]
        if rule[0] == "either":
            return any(self.has(part, piece) for part in rule[1])
        return self.has_row(rule[1], piece)

    def has_row(self, rules, piece):
        if not rules:
            return piece == ""
        return any(self.has(rules[0], piece[:cut]) and self.has_row(rules[1:], piece[cut:])
                   for cut in range(len(piece) + 1))

    def trees(self, rule, begin, end, around=()):
        """The trees of the rule for a piece, in their order; Endless if a spot stands within itself."""
        piece = self.word[begin:end]
        if not self.has(rule, piece):
            return
        if rule[0] == "empty":
            yield ()
        elif rule[0] == "one":
            yield piece
        elif rule[0] == "name":
            spot = (rule[1], begin, end)
            if spot in around:
                raise Endless()
            for tree in self.trees(self.bodies[rule[1]], begin, end, around + (spot,)):
                yield (rule[1], tree)
        elif rule[0] == "either":
            for place, part in enumerate(rule[1]):
                for tree in self.trees(part, begin, end, around):
                    yield (place, tree)
        else:
            yield from self.rows(rule[1], begin, end, around)

    def rows(self, rules, begin, end, around):
        if not rules:
            yield []
            return
        for cut in range(end, begin - 1, -1):
            if self.has(rules[0], self.word[begin:cut]) and self.has_row(rules[1:], self.word[cut:end]):
                rest = list(self.rows(rules[1:], cut, end, around))
                for tree in self.trees(rules[0], begin, cut, around):
                    for others in rest:
                        yield [(self.word[begin:cut], tree)] + others

    def all_trees(self, most=3000):
        """The first trees of the head for the whole word, in their order, or Endless."""
        return list(itertools.islice(self.trees(("name", self.head), 0, len(self.word)), most))

    def under(self, spot):
        """The spots that stand right under a spot."""
        name, begin, end = spot
        if self.word[begin:end] not in self.told[name]:
            return set()
        found = set()
        self.look_into(self.bodies[name], begin, end, found)
        return found

    def look_into(self, rule, begin, end, found):
        if not self.has(rule, self.word[begin:end]):
            return
        if rule[0] == "name":
            found.add((rule[1], begin, end))
        elif rule[0] == "either":
            for part in rule[1]:
                self.look_into(part, begin, end, found)
        elif rule[0] == "row":
            self.look_into_row(rule[1], begin, end, found)

    def look_into_row(self, rules, begin, end, found):
        if not rules:
            return
        for cut in range(begin, end + 1):
            if self.has(rules[0], self.word[begin:cut]) and self.has_row(rules[1:], self.word[cut:end]):
                self.look_into(rules[0], begin, cut, found)
                self.look_into_row(rules[1:], cut, end, found)

    def endless(self, spot):
        """Whether the spot has endlessly many trees."""
        met, waiting = set(), [spot]
        leads = {}
        while waiting:
            other = waiting.pop()
            if other not in met:
                met.add(other)
                leads[other] = self.under(other)
                waiting += leads[other]
        left = set(met)
        while True:
            gone = {other for other in left if not leads[other] & left}
            if not gone:
                return spot in left
            left -= gone

    def endless_paper(self):
        spots = [(self.head, 0, len(self.word))]
        if not self.endless(spots[0]):
            return None
        names = list(self.bodies)
        while spots[-1] not in spots[:-1]:
            behind = sorted((names.index(name), begin, end) for name, begin, end in self.under(spots[-1])
                            if self.endless((name, begin, end)))
            spots.append((names[behind[0][0]],) + behind[0][1:])
        return spots


def parts_in(tree):
    """How many parts a tree has."""
    if isinstance(tree, list):
        return 1 + sum(parts_in(inner) for _, inner in tree)
    if isinstance(tree, tuple) and tree:
        return 1 + parts_in(tree[1])
    return 1
