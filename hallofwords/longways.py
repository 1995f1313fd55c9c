"""The first two ways of a rule without both and not, for words that may be long.

Of the numbers of ways only 0, 1, and 2 or more are told apart.
"""

from hallofwords.bits import bits_of
from hallofwords.rules import rules_in


class Pieces:
    """The pieces of a word that something has: some with one way, or more, and some with two, or more.

    The lists once and twice have a mask for each begin: that of the ends of such pieces.
    """

    def __init__(self, once, twice):
        self.once = once
        self.twice = twice

    def many(self, begin, end):
        """Return the number of ways for the piece, 2 for all greater ones."""
        return (self.once[begin] >> end & 1) + (self.twice[begin] >> end & 1)


class Part:
    """A part of a rule with its pieces.

    For a row and for times, rests[k] are the pieces of the lists of pairs that can stand behind k
    pairs; the last of the rests holds for all greater numbers of pairs, too.
    """

    def __init__(self, kind, inner, rests, low):
        self.kind = kind
        self.inner = inner
        self.pieces = rests[0]
        self.rests = rests
        self.low = low


def only_empty(many):
    """Return the pieces without signs, with one way each, for so many places."""
    return Pieces([1 << place for place in range(many)], [0] * many)


def in_either(several):
    """Return the pieces with the ways of all of these."""
    once = several[0].once
    twice = several[0].twice
    for pieces in several[1:]:
        twice = [
            one_twice | other_twice | one & other
            for one_twice, other_twice, one, other in zip(twice, pieces.twice, once, pieces.once)
        ]
        once = [one | other for one, other in zip(once, pieces.once)]
    return Pieces(once, twice)


def begun_with(first, begin, rest):
    """Return the masks, once and twice, of the pieces of the first and then of the rest, with this begin."""
    once = 0
    twice = 0
    for middle in bits_of(first.once[begin]):
        behind = rest.once[middle]
        doubled = behind if first.twice[begin] >> middle & 1 else rest.twice[middle]
        twice = twice | doubled | once & behind
        once = once | behind
    return once, twice


def in_turn(first, rest):
    """Return the pieces that are one of the first and then one of the rest."""
    found = [begun_with(first, begin, rest) for begin in range(len(first.once))]
    return Pieces([once for once, _ in found], [twice for _, twice in found])


def with_signs(pieces):
    """Return the pieces without those that have no signs."""
    once = [mask & ~(1 << begin) for begin, mask in enumerate(pieces.once)]
    return Pieces(once, [mask & ~(1 << begin) for begin, mask in enumerate(pieces.twice)])


def endless(signed):
    """Return the pieces of any number of these, which have signs, one after the other."""
    rest = only_empty(len(signed.once))
    for begin in range(len(signed.once) - 2, -1, -1):
        once, twice = begun_with(signed, begin, rest)
        rest.once[begin] = rest.once[begin] | once
        rest.twice[begin] = twice
    return rest


def rests_of_row(inner, many):
    """Return the rests of a row of these pieces."""
    rests = [only_empty(many)]
    for pieces in inner[::-1]:
        rests.append(in_turn(pieces, rests[-1]))
    return rests[::-1]


def rests_of_times(pieces, low, high, many):
    """Return the rests of times: behind low pairs no part is without signs."""
    signed = with_signs(pieces)
    rests = [endless(signed) if high is None else only_empty(many)]
    for _ in range(0 if high is None else high - low):
        rests.append(in_either([in_turn(signed, rests[-1]), only_empty(many)]))
    for _ in range(low):
        rests.append(in_turn(pieces, rests[-1]))
    return rests[::-1]


def part_of(rule, word):
    """Return the rule with its pieces of the word."""
    kind = rule[0]
    many = len(word) + 1
    none = [0] * many
    if kind == "one":
        once = [2 << at if word[at:at + 1] in list(rule[1]) else 0 for at in range(many)]
        return Part(kind, [], [Pieces(once, none)], 0)
    if kind in ("none", "empty"):
        return Part(kind, [], [only_empty(many) if kind == "empty" else Pieces(none, none)], 0)
    inner = [part_of(rule_in, word) for rule_in in rules_in(rule)]
    if kind == "either":
        return Part(kind, inner, [in_either([part.pieces for part in inner])], 0)
    if kind == "row":
        return Part(kind, inner, rests_of_row([part.pieces for part in inner], many), len(inner))
    return Part(kind, inner, rests_of_times(inner[0].pieces, rule[2], rule[3], many), rule[2])


def first_two(rule, word):
    """Return the first two ways of the rule for the word, in their order; there are two."""
    part = part_of(rule, word)
    return way_of(part, word, 0, len(word), 0), way_of(part, word, 0, len(word), 1)


def way_of(part, word, begin, end, place):
    """Return the way of the part with this place, 0 or 1, for the piece of the word; there is one."""
    if part.kind == "either":
        chosen = 0
        while place >= part.inner[chosen].pieces.many(begin, end):
            place = place - part.inner[chosen].pieces.many(begin, end)
            chosen += 1
        return (chosen, way_of(part.inner[chosen], word, begin, end, place))
    if part.kind in ("row", "times"):
        return pairs_of(part, word, begin, end, place)
    return word[begin:end] if part.kind == "one" else ()


def pairs_of(part, word, begin, end, place):
    """Return the list of pairs of a row or times with this place, 0 or 1, for the piece of the word."""
    found = []
    while begin < end or len(found) < part.low:
        inner = part.inner[min(len(found), len(part.inner) - 1)]
        rest = part.rests[min(len(found) + 1, len(part.rests) - 1)]
        cuts = inner.pieces.once[begin] & ((2 << end) - 1)
        cut = cuts.bit_length() - 1
        while place >= inner.pieces.many(begin, cut) * rest.many(cut, end):
            place = place - inner.pieces.many(begin, cut) * rest.many(cut, end)
            cuts = cuts ^ 1 << cut
            cut = cuts.bit_length() - 1
        way = way_of(inner, word, begin, cut, place // rest.many(cut, end))
        found.append((word[begin:cut], way))
        place = place % rest.many(cut, end)
        begin = cut
    return found
