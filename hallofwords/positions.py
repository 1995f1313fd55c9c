"""The positions of a rule without both and not, double words, and papers that there are none."""

from hallofwords.doubles import keeps_pairs, pairs_of, search
from hallofwords.errors import BadRule
from hallofwords.longways import first_two
from hallofwords.roads import numbers_of_rule, useful_numbers, useful_places, worth_of_roads
from hallofwords.rules import walk
from hallofwords.ways import check_weight


def check_positions(rule):
    """Raise BadRule if a part is both or not, and then BadSize if the weight is too great."""
    if any([part[0] in ("both", "not") for part, _ in walk(rule)]):
        raise BadRule()
    check_weight(rule)


def positions_of(letters, rule):
    """Return the signs of the positions and the numbers of the rule, or raise BadRule or BadSize."""
    check_positions(rule)
    return numbers_of_rule(rule)


def useful_positions(letters, rule):
    """Return the useful positions, ascending, or raise BadRule or BadSize."""
    check_positions(rule)
    return useful_places(numbers_of_rule(rule))


def checked_numbers(rule):
    """Return the numbers at useful positions, or raise BadRule or BadSize."""
    check_positions(rule)
    return useful_numbers(numbers_of_rule(rule))


def count_roads(letters, rule, word):
    """Return the number of ways of the rule for the word by its roads, or raise BadRule or BadSize."""
    numbers = checked_numbers(rule)
    fits = {sign: [1 if sign in told else 0 for told in numbers[0]] for sign in letters}
    return worth_of_roads(numbers, [fits[sign] for sign in word])


def ways_of_length(letters, rule, length):
    """Return the sum of the numbers of ways for all words of this length, or raise BadRule or BadSize."""
    numbers = checked_numbers(rule)
    return worth_of_roads(numbers, [[len(told) for told in numbers[0]]] * length)


def double_word(letters, rule):
    """Return the first double word, or None, or raise BadRule or BadSize."""
    numbers = checked_numbers(rule)
    if numbers[1] > 1:
        return ""
    word, _ = search(letters, numbers)
    return word


def two_ways(letters, rule):
    """Return the first double word and its first two ways, or None, or raise BadRule or BadSize."""
    word = double_word(letters, rule)
    if word is None:
        return None
    one, other = first_two(rule, word)
    return (word, one, other)


def double_paper(letters, rule):
    """Return the double paper with the pairs that are demanded, or None, or raise BadRule or BadSize."""
    numbers = checked_numbers(rule)
    word, met = search(letters, numbers)
    if numbers[1] > 1 or word is not None:
        return None
    _, e, begins, steps, ends = numbers
    return (e, begins, steps, ends, pairs_of(met))


def is_double_paper(letters, rule, paper):
    """Tell whether the paper is a double paper for the rule, or raise BadRule or BadSize."""
    numbers = checked_numbers(rule)
    _, e, begins, steps, ends = numbers
    if paper[:4] != (e, begins, steps, ends):
        return False
    if max([e] + begins + ends + [step for row in steps for step in row]) > 1:
        return False
    pairs = paper[4]
    if not all(0 <= p <= q < len(begins) for p, q in pairs):
        return False
    if any([pairs[k] >= pairs[k + 1] for k in range(len(pairs) - 1)]):
        return False
    return keeps_pairs(letters, numbers, pairs)
