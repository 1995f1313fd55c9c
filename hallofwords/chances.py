"""Words that are drawn sign by sign: their chances, and when a machine takes one."""

from math import gcd

from hallofwords.drawing import chances_to, drawn_steps, means_to
from hallofwords.errors import BadNumber, BadSize
from hallofwords.folds import gone_on, has_end, made, with_start
from hallofwords.machines import least
from hallofwords.meeting import Meeting
from hallofwords.ratios import in_wholes, product_of, ratio, sum_of
from hallofwords.rules import is_number

MOST_PARTS_OF_ONE = 100
MOST_STATES_TOLD = 24


def check_source(letters, source):
    """Raise BadSize if there is not an element for each letter, then BadNumber if one is wrong, or the sum."""
    if len(source) != len(letters):
        raise BadSize(len(source))
    if not all(is_chance(value) for value in source) or sum_of(source) != (1, 1):
        raise BadNumber()


def is_chance(value):
    """Tell whether any value is a fraction, in lowest terms, that may be the chance of a letter."""
    if not isinstance(value, tuple) or len(value) != 2 or not is_number(value[0]) or not is_number(value[1]):
        return False
    over, under = value
    return 1 <= under <= MOST_PARTS_OF_ONE and 0 <= over <= under and gcd(over, under) == 1


def chance_of(letters, source, word):
    """Return the chance of the word."""
    chance = (1, 1)
    for sign in word:
        chance = product_of(chance, source[letters.index(sign)])
    return chance


def taken_upto(source, machine, n):
    """Return for each number of signs from 0 to n how many words are taken, counted by weight.

    It is a list of tuples: the weight of the words that are taken, and that of all words.
    """
    table, ends = machine
    weights, whole = in_wholes(source)
    standing = [1] + [0] * (len(table) - 1)
    every = 1
    found = []
    for _ in range(n + 1):
        found.append((sum([number for number, end in zip(standing, ends) if end]), every))
        moved = [0] * len(table)
        for row, number in zip(table, standing):
            for weight, reached in zip(weights, row):
                moved[reached] += weight * number
        standing = moved
        every = every * whole
    return found


def chance_at(letters, source, machine, n):
    """Return the chance that the machine takes the word of the first n signs."""
    over, under = taken_upto(source, machine, n)[n]
    return ratio(over, under)


def staying(letters, machine):
    """Return the machine that stands still at its ends."""
    table, ends = machine
    return [[state] * len(letters) if ends[state] else row for state, row in enumerate(table)], ends


def taken_by(letters, source, machine, n):
    """Return the chance that the machine takes the word of at least one number of signs up to n."""
    return chance_at(letters, source, staying(letters, machine), n)


def search_machine(letters, machine):
    """Return the machine of the words in which the machine has a place, or raise TooMany or TooGreat."""
    table, ends = least(letters, machine)

    def with_found(states):
        # None stands for what is called found.
        return None if has_end(ends, states) else states

    def step(states, at):
        return None if states is None else with_found(with_start(gone_on(table, states, at)))

    return made(letters, with_found((0,)), step, lambda states: states is None)


def met_by(letters, source, machine, n):
    """Return the chance that the machine has a place in the word of the first n signs, or raise TooMany or TooGreat."""
    return chance_at(letters, source, search_machine(letters, machine), n)


def mean_places(letters, source, machine, n):
    """Return the mean number of the places of the machine in the word of the first n signs."""
    taken = taken_upto(source, machine, n)
    return sum_of([ratio((n - length + 1) * over, under) for length, (over, under) in enumerate(taken)])


def check_states(machine):
    """Raise BadSize with the number of states of the machine if it has too many."""
    if len(machine[0]) > MOST_STATES_TOLD:
        raise BadSize(len(machine[0]))


def chances_from(letters, source, machine):
    """Return the chances of the states, or raise BadSize."""
    check_states(machine)
    steps, whole = drawn_steps(source, machine[0])
    return chances_to(steps, whole, machine[1])


def means_from(letters, source, machine):
    """Return the means of the states, None where there is none, or raise BadSize."""
    check_states(machine)
    steps, whole = drawn_steps(source, machine[0])
    return means_to(steps, whole, machine[1])


def ever_taken(letters, source, machine):
    """Return the chance that the machine takes some word with which the endless word begins, or raise BadSize."""
    return chances_from(letters, source, least(letters, machine))[0]


def mean_first(letters, source, machine):
    """Return the mean length of the first such word, or None, or raise BadSize."""
    return means_from(letters, source, least(letters, machine))[0]


def race(letters, source, first, second):
    """Return the chances that the first machine alone, the second one alone, both or none come to an end first."""
    one = least(letters, first)
    other = least(letters, second)
    meeting = met_in_race(letters, one, other)
    if len(meeting.things) > MOST_STATES_TOLD:
        raise BadSize(len(meeting.things))
    told = [(one[1][p], other[1][q]) for p, q in meeting.things]
    steps, whole = drawn_steps(source, meeting.rows)
    chances = []
    for wanted in ((True, False), (False, True), (True, True)):
        chances.append(chances_to(steps, whole, [ends == wanted for ends in told])[0])
    ever = sum_of(chances)
    return tuple(chances) + (ratio(ever[1] - ever[0], ever[1]),)


def met_in_race(letters, one, other):
    """Return the pairs of states that are met from (0, 0); nothing is met behind a pair with an end."""
    meeting = Meeting((0, 0))
    while len(meeting.rows) < len(meeting.things):
        before = len(meeting.rows)
        p, q = meeting.things[before]
        row = []
        if not one[1][p] and not other[1][q]:
            for sign, reached, behind in zip(letters, one[0][p], other[0][q]):
                row.append(meeting.place_by((reached, behind), before, sign))
        meeting.rows.append(row)
    return meeting
