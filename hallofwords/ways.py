"""The ways in which a word belongs to a rule: their number, their order and their places."""

from hallofwords.errors import BadSize
from hallofwords.reaching import is_piece, pieces_of
from hallofwords.rules import is_number, rules_in

MOST_WEIGHT = 60


def weight_of(rule):
    """Return the weight of the rule."""
    kind = rule[0]
    if kind in ("none", "empty", "one", "not"):
        return 1
    weight = sum([weight_of(part) for part in rules_in(rule)])
    if kind != "times":
        return weight
    _, _, low, high = rule
    return weight * (low + 1 if high is None else max(high, 1))


def check_weight(rule):
    """Raise BadSize with the weight if it is too great."""
    weight = weight_of(rule)
    if weight > MOST_WEIGHT:
        raise BadSize(weight)


def is_of(letters, rule, word):
    """Tell whether the word belongs to the rule."""
    return is_piece(pieces_of(rule, word), 0, len(word))


def is_way(letters, rule, word, way):
    """Tell whether the value is a way of the rule for the word."""
    return is_right(told_apart(rule, word), word, 0, len(word), way)


def told_apart(rule, word):
    """Return the rule with the pieces of the word that belong to it in the place of the rule in each not."""
    kind = rule[0]
    if kind == "not":
        return (kind, pieces_of(rule[1], word))
    if kind == "times":
        return (kind, told_apart(rule[1], word)) + rule[2:]
    inner = [told_apart(part, word) for part in rules_in(rule)]
    return (kind, inner) if inner else rule


def is_right(rule, word, begin, end, way):
    """Tell whether the value is a way of the rule, told apart, for the piece of the word."""
    kind = rule[0]
    if kind == "empty":
        return begin == end and is_no_pair(way)
    if kind == "one":
        return isinstance(way, str) and way == word[begin:end] and way in list(rule[1])
    if kind == "not":
        return is_no_pair(way) and not is_piece(rule[1], begin, end)
    if kind == "either":
        return is_pair(way) and is_place(way[0], rule[1]) and is_right(rule[1][way[0]], word, begin, end, way[1])
    if kind == "both":
        if not isinstance(way, list) or len(way) != len(rule[1]):
            return False
        return all(is_right(inner, word, begin, end, told) for inner, told in zip(rule[1], way))
    return kind != "none" and isinstance(way, list) and is_right_list(rule, word, begin, end, way)


def is_no_pair(way):
    """Tell whether the value is the tuple without elements."""
    return isinstance(way, tuple) and len(way) == 0


def is_pair(way):
    """Tell whether the value is a tuple with two elements."""
    return isinstance(way, tuple) and len(way) == 2


def is_place(value, rules):
    """Tell whether the value is the place of one of the rules."""
    return is_number(value) and 0 <= value < len(rules)


def is_right_list(rule, word, begin, end, way):
    """Tell whether the list is a way of the row or times for the piece of the word."""
    if rule[0] == "row":
        inner, low = rule[1], len(rule[1])
        fits = len(way) == low
    else:
        inner, low = [rule[1]] * len(way), rule[2]
        fits = len(way) >= low and (rule[3] is None or len(way) <= rule[3])
    cuts = cuts_of(word, begin, end, way)
    if not fits or cuts is None:
        return False
    if any(cuts[k] == cuts[k + 1] for k in range(low, len(way))):
        return False
    return all(is_right(inner[k], word, cuts[k], cuts[k + 1], way[k][1]) for k in range(len(way)))


def cuts_of(word, begin, end, way):
    """Return the places at which the parts of the pairs cut the piece, or None if they are not such pairs."""
    cuts = [begin]
    for pair in way:
        if not is_pair(pair) or not isinstance(pair[0], str):
            return None
        cut = cuts[-1] + len(pair[0])
        if cut > end or word[cuts[-1]:cut] != pair[0]:
            return None
        cuts.append(cut)
    return cuts if cuts[-1] == end else None


class Counted:
    """A part of a rule with the numbers of its ways for the pieces of one word.

    The item counts[begin][end] is the number of the ways for the piece from begin to end.
    For a row and for times, rests[k][begin][end] is the number of the lists of pairs that can
    stand behind k pairs: these begin where the k pairs end, and end with the piece. The last of
    the rests holds for all greater numbers of pairs, too. Behind low pairs the list may end.
    """

    def __init__(self, kind, inner, rests, low):
        self.kind = kind
        self.inner = inner
        self.counts = rests[0]
        self.rests = rests
        self.low = low

    def inner_at(self, pairs):
        """Return the part of which a way stands behind so many pairs."""
        return self.inner[min(pairs, len(self.inner) - 1)]

    def rest_at(self, pairs):
        """Return the numbers of lists that can stand behind so many pairs."""
        return self.rests[min(pairs, len(self.rests) - 1)]


def counted(rule, word):
    """Return the rule with its numbers of ways for the pieces of the word."""
    kind = rule[0]
    if kind == "not":
        pieces = pieces_of(rule, word)
        counts = counts_by(word, lambda begin, end: 1 if is_piece(pieces, begin, end) else 0)
        return Counted(kind, [], [counts], 0)
    inner = [counted(part, word) for part in rules_in(rule)]
    if kind == "row":
        return Counted(kind, inner, rests_of_row(inner, word), len(inner))
    if kind == "times":
        return Counted(kind, inner, rests_of_times(inner[0].counts, rule[2], rule[3], word), rule[2])
    counts = counts_by(word, lambda begin, end: count_at(rule, inner, word, begin, end))
    return Counted(kind, inner, [counts], 0)


def counts_by(word, number):
    """Return what number says for each begin and end, 0 where the end stands ahead of the begin."""
    places = range(len(word) + 1)
    return [[number(begin, end) if begin <= end else 0 for end in places] for begin in places]


def count_at(rule, inner, word, begin, end):
    """Return the number of ways of none, empty, one, either or both for the piece of the word."""
    kind = rule[0]
    if kind == "empty":
        return 1 if begin == end else 0
    if kind == "one":
        return 1 if word[begin:end] in list(rule[1]) else 0
    numbers = [part.counts[begin][end] for part in inner]
    return product_of(numbers) if kind == "both" else sum(numbers)


def product_of(numbers):
    """Return the product of the numbers."""
    product = 1
    for number in numbers:
        product = product * number
    return product


def count_empty(word):
    """Return the number of the lists without pairs for each piece."""
    return counts_by(word, lambda begin, end: 1 if begin == end else 0)


def followed(counts, rest, word):
    """Return the numbers of the lists of a pair, as often as counts says, and then a list of the rest."""
    return counts_by(
        word,
        lambda begin, end: sum([counts[begin][cut] * rest[cut][end] for cut in range(begin, end + 1)]),
    )


def rests_of_row(inner, word):
    """Return the rests of a row of these parts."""
    rests = [count_empty(word)]
    for part in inner[::-1]:
        rests.append(followed(part.counts, rests[-1], word))
    return rests[::-1]


def rests_of_times(counts, low, high, word):
    """Return the rests of times: behind low pairs no part is without signs."""
    signed = counts_by(word, lambda begin, end: counts[begin][end] if begin < end else 0)
    rests = [endless_rest(signed, word) if high is None else count_empty(word)]
    for _ in range(0 if high is None else high - low):
        rests.append(with_nothing(followed(signed, rests[-1], word)))
    for _ in range(low):
        rests.append(followed(counts, rests[-1], word))
    return rests[::-1]


def with_nothing(counts):
    """Return the numbers with one more list, that without pairs, for each piece without signs."""
    return [[number + 1 if begin == end else number for end, number in enumerate(row)]
            for begin, row in enumerate(counts)]


def endless_rest(signed, word):
    """Return the numbers of the lists of any number of pairs whose parts have signs."""
    rest = count_empty(word)
    for begin in range(len(word) - 1, -1, -1):
        for end in range(begin + 1, len(word) + 1):
            rest[begin][end] = sum([signed[begin][cut] * rest[cut][end] for cut in range(begin + 1, end + 1)])
    return rest


def count_ways(letters, rule, word):
    """Return the number of the ways of the rule for the word, or raise BadSize."""
    check_weight(rule)
    return counted(rule, word).counts[0][len(word)]


def ways(letters, rule, word, *, most=100):
    """Return the first ways of the rule for the word, in their order, or raise BadSize."""
    check_weight(rule)
    part = counted(rule, word)
    many = min(most, part.counts[0][len(word)])
    return [way_of(part, word, 0, len(word), place) for place in range(many)]


def way_at(letters, rule, word, place):
    """Return the way with this place, or None, or raise BadSize."""
    check_weight(rule)
    part = counted(rule, word)
    if place >= part.counts[0][len(word)]:
        return None
    return way_of(part, word, 0, len(word), place)


def way_of(part, word, begin, end, place):
    """Return the way of the part with this place for the piece of the word; there is one."""
    if part.kind == "either":
        chosen = 0
        while place >= part.inner[chosen].counts[begin][end]:
            place -= part.inner[chosen].counts[begin][end]
            chosen += 1
        return (chosen, way_of(part.inner[chosen], word, begin, end, place))
    if part.kind == "both":
        return ways_of_all(part.inner, word, begin, end, place)
    if part.kind in ("row", "times"):
        return pairs_of(part, word, begin, end, place)
    return word[begin:end] if part.kind == "one" else ()


def ways_of_all(inner, word, begin, end, place):
    """Return the list of ways of the parts; the first of them changes last."""
    found = []
    for part in inner[::-1]:
        many = part.counts[begin][end]
        found.append(way_of(part, word, begin, end, place % many))
        place = place // many
    return found[::-1]


def pairs_of(part, word, begin, end, place):
    """Return the list of pairs of a row or times with this place for the piece of the word."""
    found = []
    while begin < end or len(found) < part.low:
        inner = part.inner_at(len(found))
        rest = part.rest_at(len(found) + 1)
        cut = end
        while place >= inner.counts[begin][cut] * rest[cut][end]:
            place -= inner.counts[begin][cut] * rest[cut][end]
            cut -= 1
        way = way_of(inner, word, begin, cut, place // rest[cut][end])
        found.append((word[begin:cut], way))
        place = place % rest[cut][end]
        begin = cut
    return found


def place_of_way(letters, rule, word, way):
    """Return the place of the way, or None if the value is no way, or raise BadSize."""
    check_weight(rule)
    if not is_way(letters, rule, word, way):
        return None
    return place_in(counted(rule, word), 0, len(word), way)


def place_in(part, begin, end, way):
    """Return the place of the way of the part for the piece from begin to end."""
    if part.kind == "either":
        ahead = sum([inner.counts[begin][end] for inner in part.inner[:way[0]]])
        return ahead + place_in(part.inner[way[0]], begin, end, way[1])
    if part.kind == "both":
        place = 0
        for inner, told in zip(part.inner, way):
            place = place * inner.counts[begin][end] + place_in(inner, begin, end, told)
        return place
    if part.kind in ("row", "times"):
        return place_of_pairs(part, begin, end, way)
    return 0


def place_of_pairs(part, begin, end, way):
    """Return the place of the list of pairs of a row or times for the piece from begin to end."""
    place = 0
    for pairs, (piece, told) in enumerate(way):
        inner = part.inner_at(pairs)
        rest = part.rest_at(pairs + 1)
        cut = begin + len(piece)
        longer = [inner.counts[begin][far] * rest[far][end] for far in range(cut + 1, end + 1)]
        place += sum(longer) + place_in(inner, begin, cut, told) * rest[cut][end]
        begin = cut
    return place
