"""Where turners lead: words with answers that a machine does not take, and papers that there are none."""

from hallofwords.errors import TooMany
from hallofwords.machines import is_taken, run_from
from hallofwords.ranks import first_words, from_ranks, to_ranks
from hallofwords.searching import first_word_met
from hallofwords.turners import has_answer

MOST_TRIPLES = 2000


def led_to(letters, first, turner, second, triple, at):
    """Return the triples to which the letter at this place leads, each once."""
    p, q, s = triple
    reached = first[0][p][at]
    found = {(reached, behind, run_from(letters, second, s, word)): True for word, behind in turner[0][q][at]}
    return list(found)


def goes_astray(letters, first, turner, second, triple):
    """Tell whether the first state is an end, and an end word leads from the last one to one that is none."""
    p, q, s = triple
    return first[1][p] and any([not second[1][run_from(letters, second, s, word)] for word in turner[1][q]])


def met_triples(letters, first, turner, second):
    """Return the triples that are met from (0, 0, 0), or raise TooMany."""
    found = [(0, 0, 0)]
    known = {(0, 0, 0): True}
    place = 0
    while place < len(found):
        for at in range(len(letters)):
            for triple in led_to(letters, first, turner, second, found[place], at):
                if triple not in known:
                    known[triple] = True
                    found.append(triple)
        if len(found) > MOST_TRIPLES:
            raise TooMany()
        place += 1
    return found


def first_word_astray(letters, first, turner, second):
    """Return the first word that has an answer which the second machine does not take, or None, or raise TooMany."""
    met_triples(letters, first, turner, second)

    def step(node, at):
        return [(triple,) for triple in led_to(letters, first, turner, second, node[0], at)]

    def holds(node):
        return goes_astray(letters, first, turner, second, node[0])

    word, _ = first_word_met(letters, ((0, 0, 0),), step, holds, most=1)
    return word


def first_astray(letters, first, turner, second):
    """Return None, or the first word astray and its first answer that is not taken, or raise TooMany."""
    word = first_word_astray(letters, first, turner, second)
    if word is None:
        return None
    return (word, first_answer_not_taken(letters, turner, second, word))


def first_answer_not_taken(letters, turner, second, word):
    """Return the first answer of the word that the machine does not take; there is one.

    For each state of the turner and of the machine the first word that is written on the way is enough.
    """
    moves, ends = turner
    reached = {(0, 0): ""}
    for sign in word:
        at = letters.index(sign)
        found = {}
        for (q, s), told in reached.items():
            for written, behind in moves[q][at]:
                spot = (behind, run_from(letters, second, s, written))
                found.setdefault(spot, []).append(told + to_ranks(letters, written))
        reached = {spot: first_words(words, 1)[0] for spot, words in found.items()}
    answers = [
        told + to_ranks(letters, end)
        for (q, s), told in reached.items()
        for end in ends[q]
        if not second[1][run_from(letters, second, s, end)]
    ]
    return from_ranks(letters, first_words(answers, 1)[0])


def is_astray(letters, first, turner, second, word, answer):
    """Tell whether the word is taken by the first machine, and its answer is not taken by the second one."""
    if not is_taken(letters, first, word) or is_taken(letters, second, answer):
        return False
    return has_answer(letters, turner, word, answer)


def lead_paper(letters, first, turner, second):
    """Return the triples that are met, ascending, if none of them goes astray, otherwise None, or raise TooMany."""
    triples = met_triples(letters, first, turner, second)
    if any([goes_astray(letters, first, turner, second, triple) for triple in triples]):
        return None
    return sorted(triples)


def is_lead_paper(letters, first, turner, second, triples):
    """Tell whether the list of triples is a lead paper."""
    if any([triples[k] >= triples[k + 1] for k in range(len(triples) - 1)]):
        return False
    sizes = (len(first[0]), len(turner[0]), len(second[0]))
    if not all(0 <= number < size for triple in triples for number, size in zip(triple, sizes)):
        return False
    among = {triple: True for triple in triples}
    if (0, 0, 0) not in among:
        return False
    if any([goes_astray(letters, first, turner, second, triple) for triple in triples]):
        return False
    return all(
        reached in among
        for triple in triples
        for at in range(len(letters))
        for reached in led_to(letters, first, turner, second, triple, at)
    )
