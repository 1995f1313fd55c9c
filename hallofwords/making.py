"""The machine of a rule."""

from hallofwords.errors import TooGreat
from hallofwords.folds import denied, joined, met, repeated, rowed
from hallofwords.machines import MOST_STATES
from hallofwords.meeting import least_of, meet
from hallofwords.rules import rules_in


def machine_of(letters, rule):
    """Return the least machine of a rule without names, or raise the TooMany or TooGreat that is due first."""
    return machine_with(letters, rule, {})


def machine_with(letters, rule, machines):
    """Return the least machine of a rule, where a dict has the machines of the names, or raise the same errors."""
    kind = rule[0]
    if kind == "name":
        return machines[rule[1]]
    inner = [machine_with(letters, part, machines) for part in rules_in(rule)]
    if kind == "none":
        return word_machine(letters, [])
    if kind == "empty":
        return word_machine(letters, [""])
    if kind == "one":
        return word_machine(letters, list(rule[1]))
    if kind == "row":
        return row_of(letters, inner)
    if kind == "either":
        return joined(letters, inner)
    if kind == "both":
        return met(letters, inner)
    if kind == "not":
        return denied(letters, inner[0])
    return times_of(letters, inner[0], rule[2], rule[3])


def row_of(letters, machines):
    """Return the machine of the row of the machines, two by two from the left."""
    found = machines[0]
    for machine in machines[1:]:
        found = rowed(letters, found, machine)
    return found


def times_of(letters, machine, low, high):
    """Return the machine of at least low and at most high parts that the machine takes."""
    empty = word_machine(letters, [""])
    found = row_of(letters, [empty] + [machine] * low)
    if high is None:
        return joined(letters, [found, rowed(letters, found, repeated(letters, machine))])
    if high > low:
        maybe = joined(letters, [machine, empty])
        found = row_of(letters, [found] + [maybe] * (high - low))
    return found


def word_machine(letters, words):
    """Return the least machine of the words, or raise TooGreat."""
    begun = {word[:length]: True for word in words for length in range(len(word) + 1)}

    def step(word, at):
        # None stands for all words with which no word of the list begins.
        if word is None or word + letters[at] not in begun:
            return None
        return word + letters[at]

    def is_end(word):
        return word in words

    machine = least_of(meet(letters, "" if words else None, step), is_end, most=MOST_STATES)
    if machine is None:
        raise TooGreat()
    return machine
