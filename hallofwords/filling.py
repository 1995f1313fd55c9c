"""Tables of machines that are filled entry by entry, and the words that go on in them.

The entries stand in one list, those of state 0 first; None stands for an open entry. A runner is a
tuple (state, rest, word, taken): the word has come to the state, the rest of it meets an open entry
next or has no signs, and the word is told to be taken or not to be taken.
"""

from hallofwords.letters import in_order


def runners_of(letters, yes, no):
    """Return a runner at state 0 for each told word, in order."""
    takers = {word: True for word in yes}
    others = {word: True for word in no}
    runners = []
    for word in in_order(letters, list(takers) + list(others)):
        if word in takers:
            runners.append((0, word, word, True))
        if word in others:
            runners.append((0, word, word, False))
    return runners


def entry_of(letters, state, sign):
    """Return the place of the entry of the state for the letter."""
    return state * len(letters) + letters.index(sign)


def run_through(letters, entries, state, word):
    """Return the state to which the word comes before it meets an open entry, and the rest of the word."""
    place = 0
    while place < len(word):
        reached = entries[entry_of(letters, state, word[place])]
        if reached is None:
            break
        state = reached
        place += 1
    return state, word[place:]


def runners_on(letters, entries, runners):
    """Return the runners, each gone on until it meets an open entry or has no rest."""
    return [run_through(letters, entries, state, rest) + (word, taken) for state, rest, word, taken in runners]


def clash_of(runners):
    """Return the first word to be taken that has come whole to a state with one not to be taken, and that, or None."""
    standing = {}
    for state, rest, word, taken in runners:
        if rest == "" and not taken:
            standing.setdefault(state, word)
    for state, rest, word, taken in runners:
        if rest == "" and taken and state in standing:
            return word, standing[state]
    return None


def with_entry(entries, place, target):
    """Return the entries with the target at this place."""
    return entries[:place] + [target] + entries[place + 1:]
