"""What words do to all states of a machine at once, and whether a word leads states around a ring."""

from hallofwords.errors import TooMany
from hallofwords.folds import MOST_THINGS
from hallofwords.machines import least, run_from
from hallofwords.meeting import meet

MOST_RING_SIGNS = 2000


def turning_of(letters, machine, word):
    """Return the turning of the word."""
    lesser = least(letters, machine)
    return [run_from(letters, lesser, state, word) for state in range(len(lesser[0]))]


def by_letters(table):
    """Return the step from a tuple of states by which each of them goes on."""

    def step(states, at):
        return tuple([table[state][at] for state in states])

    return step


def met_members(letters, machine):
    """Return the meeting of the members, or raise TooMany."""
    table, _ = least(letters, machine)
    meeting = meet(letters, tuple(range(len(table))), by_letters(table), most=MOST_THINGS)
    if meeting is None:
        raise TooMany()
    return meeting


def members(letters, machine):
    """Return the members, in the order of the first words that have them, or raise TooMany."""
    return [list(states) for states in met_members(letters, machine).things]


def ring_in(states):
    """Return the ring of at least two states that the turning leads around with the least state, or None."""
    passed = {}
    firsts = []
    for first in range(len(states)):
        state = first
        while state not in passed:
            passed[state] = first
            state = states[state]
        # A way that comes to one of its own states goes around from there.
        if passed[state] == first and states[state] != state:
            firsts.append(min(way_around(states, state)))
    return way_around(states, min(firsts)) if firsts else None


def way_around(states, first):
    """Return the states that the turning leads around, from this one of them on."""
    ring = [first]
    while states[ring[-1]] != first:
        ring.append(states[ring[-1]])
    return ring


def ring_of(letters, machine):
    """Return the first ring, a word and a list of states, or None, or raise TooMany."""
    meeting = met_members(letters, machine)
    for place, states in enumerate(meeting.things):
        ring = ring_in(states)
        if ring is not None:
            return (meeting.first_word_to(place), ring)
    return None


def is_ring(letters, machine, word, states):
    """Tell whether the word and the list of states are a ring."""
    lesser = least(letters, machine)
    if len(word) > MOST_RING_SIGNS or not 2 <= len(states) <= len(lesser[0]):
        return False
    if any([states[k] in states[:k] for k in range(len(states))]):
        return False
    if not all(0 <= state < len(lesser[0]) for state in states):
        return False
    return [run_from(letters, lesser, state, word) for state in states] == states[1:] + states[:1]


def rest_paper(letters, machine):
    """Return the members, ascending, or None if the machine does not rest, or raise TooMany."""
    turnings = members(letters, machine)
    if any([ring_in(states) is not None for states in turnings]):
        return None
    return sorted(turnings)


def is_rest_paper(letters, machine, rows):
    """Tell whether the list of lists is a rest paper."""
    table, _ = least(letters, machine)
    many = len(table)
    if not all(rows[k] < rows[k + 1] for k in range(len(rows) - 1)):
        return False
    if not all(len(row) == many and all(0 <= state < many for state in row) for row in rows):
        return False
    among = {tuple(row): True for row in rows}
    step = by_letters(table)
    if tuple(range(many)) not in among:
        return False
    if not all(step(row, at) in among for row in rows for at in range(len(letters))):
        return False
    return not any([ring_in(row) is not None for row in rows])
