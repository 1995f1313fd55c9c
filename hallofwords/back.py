"""The rule of a machine."""

from hallofwords.errors import BadSize, TooDeep
from hallofwords.letters import ordered_signs
from hallofwords.machines import least
from hallofwords.rules import MOST_DEPTH, MOST_LISTED, MOST_PARTS, copied, depth_of, size_of

NONE = ("none",)
EMPTY = ("empty",)
MOST_TAKEN_OUT = 6


def rule_of(letters, machine):
    """Return the rule that comes of taking the states out, or raise BadSize or TooDeep."""
    table, ends = least(letters, machine)
    if len(table) > MOST_TAKEN_OUT:
        raise BadSize(len(table))
    ways = ways_between(letters, table, ends)
    for state in range(len(table) - 1, -1, -1):
        ways = taken_out(letters, ways, state)
    rule = ways[("begin", "end")]
    if size_of(rule) > MOST_PARTS:
        raise BadSize(size_of(rule))
    if depth_of(rule) > MOST_DEPTH:
        raise TooDeep()
    # The ways share their lists with one another.
    return copied(rule)


def ways_between(letters, table, ends):
    """Return the rules for the ways, from the beginning and the states to the states and the end."""
    ways = {("begin", "end"): NONE}
    for state, row in enumerate(table):
        ways[("begin", state)] = EMPTY if state == 0 else NONE
        ways[(state, "end")] = EMPTY if ends[state] else NONE
        for other in range(len(table)):
            signs = "".join([sign for sign, reached in zip(letters, row) if reached == other])
            ways[(state, other)] = ("one", signs) if signs else NONE
    return ways


def taken_out(letters, ways, state):
    """Return the ways that are left when the state is taken out."""
    left = {}
    turns = repeats(ways[(state, state)])
    for first, last in ways:
        if state not in (first, last):
            through = in_row([ways[(first, state)], turns, ways[(state, last)]])
            left[(first, last)] = in_either(letters, [ways[(first, last)], through])
    return left


def opened(kind, rules):
    """Return the rules, with those in their place that stand in rules of this kind, however deep."""
    found = []
    for rule in rules:
        if rule[0] == kind:
            found.extend(opened(kind, rule[1]))
        else:
            found.append(rule)
    return found


def in_row(rules):
    """Return the row of the rules, put together."""
    if NONE in rules:
        return NONE
    kept = [rule for rule in opened("row", rules) if rule != EMPTY]
    return grouped("row", kept) if kept else EMPTY


def in_either(letters, rules):
    """Return the either of the rules, put together."""
    kept = []
    signs = ""
    for rule in opened("either", rules):
        if rule[0] == "one":
            signs = signs + rule[1]
        if rule != NONE and rule not in kept:
            kept.append(rule)
    kept = one_together(kept, ("one", ordered_signs(letters, signs)))
    return grouped("either", kept) if kept else NONE


def one_together(rules, one):
    """Return the rules with this one in the place of the first "one", and without the others."""
    found = []
    for rule in rules:
        if rule[0] != "one":
            found.append(rule)
        elif one not in found:
            found.append(one)
    return found


def grouped(kind, rules):
    """Return the one rule, or the rule of this kind of the rules; the sixth one has what is too much."""
    if len(rules) == 1:
        return rules[0]
    if len(rules) <= MOST_LISTED:
        return (kind, rules)
    first = rules[:MOST_LISTED - 1]
    return (kind, first + [grouped(kind, rules[MOST_LISTED - 1:])])


def repeats(rule):
    """Return the repeats of the rule, put together."""
    if rule in (NONE, EMPTY):
        return EMPTY
    if rule[0] == "times" and rule[2:] == (0, None):
        return rule
    return ("times", rule, 0, None)
