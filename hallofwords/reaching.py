"""Which pieces of one word belong to a rule.

The pieces of a rule are told by a list with a number for each place of the word at which a piece
may begin: the number has the bit of each place at which a piece ends that begins there and belongs
to the rule.
"""

from hallofwords.rules import rules_in


def pieces_of(rule, word):
    """Return the pieces of the word that belong to the rule."""
    kind = rule[0]
    places = range(len(word) + 1)
    if kind == "none":
        return [0 for _ in places]
    if kind == "empty":
        return only_empty(len(places))
    if kind == "one":
        return [2 << at if word[at:at + 1] in list(rule[1]) else 0 for at in places]
    inner = [pieces_of(part, word) for part in rules_in(rule)]
    if kind == "row":
        return all_in_turn(inner)
    if kind == "either":
        return in_some(inner)
    if kind == "both":
        return in_all(inner)
    if kind == "not":
        # From each begin on all places but those at which a piece of the rule ends.
        whole = (2 << len(word)) - 1
        return [(whole >> at << at) ^ ends for at, ends in enumerate(inner[0])]
    return in_times(inner[0], rule[2], rule[3])


def is_piece(pieces, begin, end):
    """Tell whether the piece from begin to end is among the pieces."""
    return pieces[begin] >> end & 1 == 1


def only_empty(many):
    """Return the pieces without signs, for so many places."""
    return [1 << at for at in range(many)]


def in_some(several):
    """Return the pieces that are among some of these."""
    found = list(several[0])
    for pieces in several[1:]:
        found = [one | other for one, other in zip(found, pieces)]
    return found


def in_all(several):
    """Return the pieces that are among all of these."""
    found = list(several[0])
    for pieces in several[1:]:
        found = [one & other for one, other in zip(found, pieces)]
    return found


def in_turn(first, second):
    """Return the pieces that are one of the first ones and then one of the second ones."""
    found = []
    for begin, middles in enumerate(first):
        ends = 0
        for middle in range(begin, len(first)):
            if middles >> middle & 1:
                ends = ends | second[middle]
        found.append(ends)
    return found


def all_in_turn(several):
    """Return the pieces that are one of each of these, one after the other."""
    found = several[0]
    for pieces in several[1:]:
        found = in_turn(found, pieces)
    return found


def in_times(pieces, low, high):
    """Return the pieces that are at least low and at most high of these, one after the other."""
    found = all_in_turn([only_empty(len(pieces))] + [pieces] * low)
    if high is None:
        return in_turn(found, any_turns(pieces))
    maybe = in_some([pieces, only_empty(len(pieces))])
    return all_in_turn([found] + [maybe] * (high - low))


def any_turns(pieces):
    """Return the pieces that are any number of these, one after the other."""
    found = [0] * len(pieces)
    for begin in range(len(pieces) - 1, -1, -1):
        found[begin] = 1 << begin
        for middle in range(begin + 1, len(pieces)):
            if pieces[begin] >> middle & 1:
                found[begin] = found[begin] | found[middle]
    return found
