"""Questions about the words of several machines, and pair papers."""

from hallofwords.errors import TooMany
from hallofwords.folds import MOST_THINGS
from hallofwords.machines import least
from hallofwords.meeting import meet, side_by_side


def is_within(letters, first, second):
    """Tell whether the second machine takes every word that the first one takes."""
    return first_of(letters, first, second) is None


def is_same(letters, first, second):
    """Tell whether the two machines take the same words."""
    return parting_word(letters, first, second) is None


def first_where(letters, machines, states, holds):
    """Return the first word that leads from the states to ones for which holds is true, or None.

    What is handed to holds is the list that says for each machine whether its state is an end.
    """
    meeting = meet(letters, states, side_by_side(machines))
    for place, reached in enumerate(meeting.things):
        if holds([ends[state] for (_, ends), state in zip(machines, reached)]):
            return meeting.first_word_to(place)
    return None


def first_of(letters, first, second):
    """Return the first word that the first machine takes and the second one does not, or None."""
    return first_where(letters, [first, second], (0, 0), lambda ends: ends[0] and not ends[1])


def parting_word(letters, first, second):
    """Return the first word that one of the machines takes and the other one does not, or None."""
    return first_parting(letters, [first, second], (0, 0))


def first_parting(letters, machines, states):
    """Return the first word that leads from one of two states to an end and from the other one not, or None."""
    return first_where(letters, machines, states, lambda ends: ends[0] != ends[1])


def pair_paper(letters, first, second):
    """Return the pairs that are met from (0, 0), if the first machine is within the second one, otherwise None."""
    if not is_within(letters, first, second):
        return None
    return pairs_from(letters, [first, second], (0, 0))


def pairs_from(letters, machines, states):
    """Return the pairs that are met from this one, ascending."""
    return sorted(meet(letters, states, side_by_side(machines)).things)


def is_pair_paper(letters, first, second, pairs):
    """Tell whether the list of pairs is a pair paper."""
    if not is_closed(letters, [first, second], (0, 0), pairs):
        return False
    return all(second[1][other] or not first[1][one] for one, other in pairs)


def is_closed(letters, machines, states, listed):
    """Tell whether tuples of states are ascending, each once, these states and all that are led to among them."""
    ascending = all(listed[k] < listed[k + 1] for k in range(len(listed) - 1))
    if not ascending or not all(are_states(machines, told) for told in listed):
        return False
    among = {told: True for told in listed}
    step = side_by_side(machines)
    if states not in among:
        return False
    return all(step(told, at) in among for told in listed for at in range(len(letters)))


def are_states(machines, numbers):
    """Tell whether each of the numbers is a state of its machine."""
    return all(0 <= number < len(table) for (table, _), number in zip(machines, numbers))


def parted(letters, machines):
    """Return the greedy partings of the machines, or raise TooMany."""
    lesser = [least(letters, machine) for machine in machines]
    meeting = meet(letters, tuple([0] * len(lesser)), side_by_side(lesser), most=MOST_THINGS)
    if meeting is None:
        raise TooMany()
    taken = {}
    for place, states in enumerate(meeting.things):
        takers = tuple([ends[state] for (_, ends), state in zip(lesser, states)])
        taken.setdefault(takers, place)
    return [meeting.first_word_to(taken[takers]) for takers in greedy(list(taken), len(lesser))]


def greedy(choices, many):
    """Return the choices in the order in which each parts most pairs that are together, the first one of several."""
    together = [(one, other) for other in range(many) for one in range(other)]
    found = []
    while True:
        counts = [len(pairs_parted(choice, together)) for choice in choices]
        if max(counts) == 0:
            return found
        choice = choices[counts.index(max(counts))]
        found.append(choice)
        gone = pairs_parted(choice, together)
        together = [pair for pair in together if pair not in gone]


def pairs_parted(choice, pairs):
    """Return the pairs of which one is chosen and the other one is not."""
    return [(one, other) for one, other in pairs if choice[one] != choice[other]]
