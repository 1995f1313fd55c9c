"""Leastness papers, and faults of machines."""

from hallofwords.deciding import first_parting, is_closed, pairs_from
from hallofwords.errors import NotLeast
from hallofwords.machines import run, run_from
from hallofwords.meeting import alike, meet, numbered, side_by_side


def access_words(letters, machine):
    """Return the first words that lead to the states, None for a state that is not reached."""
    meeting = meet(letters, (0,), side_by_side([machine]))
    words = [None] * len(machine[0])
    for place, (state,) in enumerate(meeting.things):
        words[state] = meeting.first_word_to(place)
    return words


def ends_behind(letters, machine, word):
    """Return the list that says for each state whether the word leads from it to an end."""
    table, ends = machine
    return [ends[run_from(letters, machine, state, word)] for state in range(len(table))]


def parting_words(letters, machine):
    """Return the parting words, or raise NotLeast."""
    if fault_of(letters, machine) is not None:
        raise NotLeast()
    many = len(machine[0])
    kinds = [0] * many
    words = []
    for p in range(many):
        for q in range(p + 1, many):
            if kinds[p] == kinds[q]:
                word = first_parting(letters, [machine, machine], (p, q))
                words.append(word)
                kinds = numbered(list(zip(kinds, ends_behind(letters, machine, word))))
    return words


def is_leastness_paper(letters, machine, access, partings):
    """Tell whether the two lists of words are a leastness paper."""
    many = len(machine[0])
    if [run(letters, machine, word) for word in access] != list(range(many)):
        return False
    kinds = [0] * many
    for word in partings:
        kinds = numbered(list(zip(kinds, ends_behind(letters, machine, word))))
    return max(kinds) + 1 == many


def fault_of(letters, machine):
    """Return None, or what shows that a state is not reached or that two states are alike."""
    table, ends = machine
    reached = sorted([state for (state,) in meet(letters, (0,), side_by_side([machine])).things])
    for state in range(len(table)):
        if state not in reached:
            return ("unreached", state, reached)
    kinds = alike(table, ends)
    for p, kind in enumerate(kinds):
        if kind in kinds[p + 1:]:
            q = kinds.index(kind, p + 1)
            return ("alike", p, q, pairs_from(letters, [machine, machine], (p, q)))
    return None


def is_fault(letters, machine, fault):
    """Tell whether the tuple shows that a state is not reached, or that two states are alike."""
    if fault[0] == "unreached":
        return is_unreached(letters, machine, fault[1], fault[2])
    return are_alike(letters, machine, fault[1], fault[2], fault[3])


def is_unreached(letters, machine, state, states):
    """Tell whether the list of states shows that the state is not reached."""
    if not 0 <= state < len(machine[0]) or state in states:
        return False
    return is_closed(letters, [machine], (0,), [(reached,) for reached in states])


def are_alike(letters, machine, p, q, pairs):
    """Tell whether the list of pairs shows that the two states are alike."""
    ends = machine[1]
    if p == q or not is_closed(letters, [machine, machine], (p, q), pairs):
        return False
    return all(ends[one] == ends[other] for one, other in pairs)
