"""Machines that are made of other machines."""

from hallofwords.errors import TooGreat, TooMany
from hallofwords.machines import MOST_STATES, lead_on, least, least_from, run, run_from
from hallofwords.meeting import least_of, meet, side_by_side

MOST_THINGS = 2000


def made(letters, first, step, is_end):
    """Return the least machine of the things that are met, or raise TooMany or TooGreat."""
    meeting = meet(letters, first, step, most=MOST_THINGS)
    if meeting is None:
        raise TooMany()
    machine = least_of(meeting, is_end, most=MOST_STATES)
    if machine is None:
        raise TooGreat()
    return machine


def denied(letters, machine):
    """Return the machine of all words that the machine does not take."""
    return least_from(letters, machine, 0, [not end for end in machine[1]])


def paired(letters, first, second, holds):
    """Return the machine of the words for which holds is true of what the two machines say."""
    one = least(letters, first)
    other = least(letters, second)

    def is_end(states):
        return holds(one[1][states[0]], other[1][states[1]])

    return made(letters, (0, 0), side_by_side([one, other]), is_end)


def from_left(letters, machines, holds):
    """Return what comes of the machines, two by two from the left."""
    found = least(letters, machines[0])
    for machine in machines[1:]:
        found = paired(letters, found, machine, holds)
    return found


def met(letters, machines):
    """Return the machine of the words that belong to all of the machines."""
    return from_left(letters, machines, lambda one, other: one and other)


def joined(letters, machines):
    """Return the machine of the words that belong to at least one of the machines."""
    return from_left(letters, machines, lambda one, other: one or other)


def less(letters, first, second):
    """Return the machine of the words of the first one that do not belong to the second one."""
    return paired(letters, first, second, lambda one, other: one and not other)


def gone_on(table, states, at):
    """Return the states, ascending, to which the letter at this place leads from some of these."""
    return tuple(sorted({table[state][at] for state in states}))


def with_start(states):
    """Return the states, ascending, with 0 among them."""
    return states if 0 in states else (0,) + states


def has_end(ends, states):
    """Tell whether some of the states is an end."""
    return any([ends[state] for state in states])


def rowed(letters, first, second):
    """Return the machine of the words of a row of the two machines."""
    table, ends = least(letters, first)
    behind_table, behind_ends = least(letters, second)

    def step(thing, at):
        state, states = thing
        reached = table[state][at]
        moved = gone_on(behind_table, states, at)
        return (reached, with_start(moved) if ends[reached] else moved)

    def is_end(thing):
        return has_end(behind_ends, thing[1])

    return made(letters, (0, (0,) if ends[0] else ()), step, is_end)


def repeated(letters, machine):
    """Return the machine of the words of one or more turns of the machine."""
    table, ends = least(letters, machine)

    def step(states, at):
        moved = gone_on(table, states, at)
        return with_start(moved) if has_end(ends, moved) else moved

    def is_end(states):
        return has_end(ends, states)

    return made(letters, (0,), step, is_end)


def turned(letters, machine):
    """Return the machine of the words written backwards, or raise TooGreat."""
    table, ends = least(letters, machine)

    def step(states, at):
        return tuple([state for state, row in enumerate(table) if row[at] in states])

    def is_end(states):
        return 0 in states

    first = tuple([place for place, end in enumerate(ends) if end])
    meeting = meet(letters, first, step, most=MOST_STATES)
    if meeting is None:
        raise TooGreat()
    return least_of(meeting, is_end)


def behind(letters, machine, word):
    """Return the machine of the words that are taken behind this word."""
    return least_from(letters, machine, run(letters, machine, word), machine[1])


def ahead(letters, machine, word):
    """Return the machine of the words that are taken ahead of this word."""
    table, ends = machine
    return least_from(letters, machine, 0, [ends[run_from(letters, machine, k, word)] for k in range(len(table))])


def beginnings(letters, machine):
    """Return the machine of the words with which some word begins that the machine takes."""
    return least_from(letters, machine, 0, lead_on(machine))


def closings(letters, machine):
    """Return the machine of the words with which some word ends that the machine takes."""
    table, ends = least(letters, machine)

    def step(states, at):
        return gone_on(table, states, at)

    def is_end(states):
        return has_end(ends, states)

    return made(letters, tuple(range(len(table))), step, is_end)


def middles(letters, machine):
    """Return the machine of the words that stand within some word that the machine takes."""
    return beginnings(letters, closings(letters, machine))
