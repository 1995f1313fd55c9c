"""Machines, the words that they take, and the least machine."""

from hallofwords.errors import BadMachine, BadSize
from hallofwords.meeting import least_of, meet, side_by_side
from hallofwords.rules import is_number

MOST_STATES = 60
MOST_WORDS = 2000


def check_machine(letters, machine):
    """Raise BadMachine if the tuple is no machine."""
    table, ends = machine
    if not 1 <= len(table) <= MOST_STATES or len(ends) != len(table):
        raise BadMachine()
    for row, end in zip(table, ends):
        if not isinstance(end, bool) or not is_row(letters, row, len(table)):
            raise BadMachine()


def is_row(letters, row, many):
    """Tell whether the value is a row of a machine with so many states."""
    if not isinstance(row, list) or len(row) != len(letters):
        return False
    return all(is_number(state) and 0 <= state < many for state in row)


def run(letters, machine, word):
    """Return the state to which the word leads."""
    return run_from(letters, machine, 0, word)


def run_from(letters, machine, state, word):
    """Return the state to which the word leads from this state."""
    table, _ = machine
    for sign in word:
        state = table[state][letters.index(sign)]
    return state


def is_taken(letters, machine, word):
    """Tell whether the machine takes the word."""
    return machine[1][run(letters, machine, word)]


def least(letters, machine):
    """Return the least machine with the same words."""
    return least_from(letters, machine, 0, machine[1])


def least_from(letters, machine, first, ends):
    """Return the least machine of the words that lead from this state to one of these ends."""

    def is_end(states):
        return ends[states[0]]

    return least_of(meet(letters, (first,), side_by_side([machine])), is_end)


def first_word(letters, machine):
    """Return the first word that the machine takes, or None."""
    ends = machine[1]
    meeting = meet(letters, (0,), side_by_side([machine]))
    for place, (state,) in enumerate(meeting.things):
        if ends[state]:
            return meeting.first_word_to(place)
    return None


def counts_to_ends(machine, length):
    """Return for each number of signs from 0 to length how many such words lead to ends, from each state."""
    table, ends = machine
    counts = [[1 if end else 0 for end in ends]]
    for _ in range(length):
        behind = counts[-1]
        counts.append([sum([behind[state] for state in row]) for row in table])
    return counts


def words_upto(letters, machine, length):
    """Return all words of at most this length that the machine takes, or raise BadSize with their number."""
    counts = counts_to_ends(machine, length)
    many = sum([of_length[0] for of_length in counts])
    if many > MOST_WORDS:
        raise BadSize(many)
    found = []
    for signs in range(length + 1):
        found.extend(words_of_length(letters, machine, counts, signs))
    return found


def words_of_length(letters, machine, counts, length):
    """Return the words with so many signs, going only where some word still leads to an end."""
    table, _ = machine
    begun = [("", 0)] if counts[length][0] else []
    for left in range(length - 1, -1, -1):
        begun = [
            (word + sign, state)
            for word, before in begun
            for sign, state in zip(letters, table[before])
            if counts[left][state]
        ]
    return [word for word, _ in begun]


def lead_on(machine):
    """Tell for each state whether some word leads from it to an end."""
    table, ends = machine
    known = list(ends)
    many = -1
    while sum(known) > many:
        many = sum(known)
        known = [end or any([known[state] for state in row]) for end, row in zip(known, table)]
    return known


def is_none(letters, machine):
    """Tell whether the machine takes no word."""
    return least(letters, machine)[1] == [False]


def is_all(letters, machine):
    """Tell whether the machine takes all words."""
    return least(letters, machine)[1] == [True]


def is_finite(letters, machine):
    """Tell whether the machine takes a finite number of words."""
    table, ends = least(letters, machine)
    leading = lead_on((table, ends))
    left = {state: True for state, leads in enumerate(leading) if leads}
    many = len(table) + 1
    # States from which no state is left are left out, until only those are left that lead to a ring.
    while len(left) < many:
        many = len(left)
        left = {state: True for state in left if any([reached in left for reached in table[state]])}
    return not left
