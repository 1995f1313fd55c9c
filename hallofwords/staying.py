"""Useful states of a machine, the letters that stay at them, and the first words between states."""

from hallofwords.machines import lead_on
from hallofwords.meeting import meet, side_by_side


def reached_from(letters, machine, state):
    """Return the states to which words lead from this one, in the order of the first such words."""
    return [reached for (reached,) in meet(letters, (state,), side_by_side([machine])).things]


def useful_states(letters, machine):
    """Tell for each state whether it is reached and some word leads from it to an end."""
    leading = lead_on(machine)
    reached = {state: True for state in reached_from(letters, machine, 0)}
    return [state in reached and leads for state, leads in enumerate(leading)]


def letters_staying(letters, machine):
    """Return for each state the string of the letters that stay at it, in their order."""
    useful = useful_states(letters, machine)
    leading_to = [{reached: True for reached in reached_from(letters, machine, state)} for state in range(len(useful))]
    found = []
    for state, row in enumerate(machine[0]):
        staying = [sign for sign, reached in zip(letters, row) if useful[state] and state in leading_to[reached]]
        found.append("".join(staying))
    return found


def first_word_between(letters, machine, state, holds):
    """Return the first word that leads from the state to one for which holds is true; there is one."""
    meeting = meet(letters, (state,), side_by_side([machine]))
    places = [place for place, (reached,) in enumerate(meeting.things) if holds(reached)]
    return meeting.first_word_to(places[0])


def first_word_back(letters, machine, state, at):
    """Return the letter at this place with the first word behind it that leads back to the state."""
    behind = first_word_between(letters, machine, machine[0][state][at], lambda reached: reached == state)
    return letters[at] + behind
