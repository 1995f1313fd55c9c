"""Turners of one answer, papers that show it, and words with two answers."""

from hallofwords.errors import BadSize
from hallofwords.rests import rest_of
from hallofwords.searching import first_word_met
from hallofwords.turners import has_answer, outs

MOST_ONE_STATES = 8


def one_answer(letters, turner):
    """Return True and the paper, or False and the first word with two answers and the first two, or raise BadSize."""
    moves, ends = turner
    if len(moves) > MOST_ONE_STATES:
        raise BadSize(len(moves))
    word, met = first_word_parted(letters, turner)
    if word is not None:
        one, other = outs(letters, turner, word, most=2)
        return (False, (word, one, other))
    leading = pairs_with_answers(letters, turner, list(met))
    rests = [(p, q) + met[(p, q)][0][1] for p, q in sorted(list(met)) if (p, q) in leading]
    return (True, (rests, [pair for pair in sorted(list(met)) if pair not in leading]))


def first_word_parted(letters, turner):
    """Return the first word with two answers, or None, and the rests that were met at each pair of states.

    A rest is None if the two words that were written are known to be different. Of two rests at a
    pair, one at least leads to two answers by each word that leads on to end words; so two are enough.
    """
    _, ends = turner

    def step(node, at):
        pair, rest = node
        return [((p, q), rest_behind(rest, v, w)) for v, p, w, q in moves_of_both(turner, pair, at)]

    def holds(node):
        (p, q), rest = node
        return any([rest_behind(rest, e, f) != ("", "") for e in ends[p] for f in ends[q]])

    return first_word_met(letters, ((0, 0), ("", "")), step, holds, most=2)


def moves_of_both(turner, pair, at):
    """Return the two moves, one of each state of the pair, for the letter at this place, put together."""
    moves, _ = turner
    p, q = pair
    return [move + other for move in moves[p][at] for other in moves[q][at]]


def rest_behind(rest, v, w):
    """Return the rest when v and w are written behind the two words, or None if they are known to be different."""
    if rest is None:
        return None
    one, other = rest_of(rest[0] + v, rest[1] + w)
    return None if one and other else (one, other)


def pairs_with_answers(letters, turner, pairs):
    """Return those of the pairs from which some word leads to end words of both states, as a dict."""
    _, ends = turner
    found = {(p, q): True for p, q in pairs if ends[p] and ends[q]}
    many = -1
    while len(found) > many:
        many = len(found)
        for pair in pairs:
            reached = [(p, q) for at in range(len(letters)) for _, p, _, q in moves_of_both(turner, pair, at)]
            if any([behind in found for behind in reached]):
                found[pair] = True
    return found


def is_one_paper(letters, turner, rests, idle):
    """Tell whether the two lists are a paper that the turner is of one answer."""
    many = len(turner[0])
    spots = [(p, q) for p, q, _, _ in rests]
    if not are_pairs(spots, many) or not are_pairs(idle, many):
        return False
    if any([one != "" and other != "" for _, _, one, other in rests]):
        return False
    told = {(p, q): (one, other) for p, q, one, other in rests}
    left = {pair: True for pair in idle}
    if told.get((0, 0)) != ("", "") and (0, 0) not in left:
        return False
    if not all(is_idle(letters, turner, left, pair) for pair in idle):
        return False
    return all(keeps_rest(letters, turner, told, left, pair) for pair in spots)


def are_pairs(pairs, many):
    """Tell whether the pairs are ascending, each once, and all their numbers those of so many states."""
    if any([pairs[k] >= pairs[k + 1] for k in range(len(pairs) - 1)]):
        return False
    return all(0 <= p < many and 0 <= q < many for p, q in pairs)


def is_idle(letters, turner, left, pair):
    """Tell whether a state of the pair has no end words, and all pairs to which letters lead are left out, too."""
    _, ends = turner
    if ends[pair[0]] and ends[pair[1]]:
        return False
    return all((p, q) in left for at in range(len(letters)) for _, p, _, q in moves_of_both(turner, pair, at))


def keeps_rest(letters, turner, told, left, pair):
    """Tell whether the rest told for the pair goes with its end words and with the pairs to which letters lead."""
    _, ends = turner
    rest = told[pair]
    if any([rest[0] + e != rest[1] + f for e in ends[pair[0]] for f in ends[pair[1]]]):
        return False
    for at in range(len(letters)):
        for v, p, w, q in moves_of_both(turner, pair, at):
            if (p, q) not in left and ((p, q) not in told or rest_behind(rest, v, w) != told[(p, q)]):
                return False
    return True


def is_two_answers(letters, turner, word, one, other):
    """Tell whether these are two different answers of the word."""
    if one == other:
        return False
    return has_answer(letters, turner, word, one) and has_answer(letters, turner, word, other)
