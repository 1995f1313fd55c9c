"""Numbers of words of a machine, and the places of words."""

from hallofwords.errors import NoWord
from hallofwords.machines import counts_to_ends, is_taken

MOST_SIGNS = 200


def count(letters, machine, length):
    """Return the number of words of this length that the machine takes."""
    return counts_to_ends(machine, length)[length][0]


def upto(letters, machine, length):
    """Return the number of words of at most this length that the machine takes."""
    return sum([of_length[0] for of_length in counts_to_ends(machine, length)])


def count_ahead(letters, machine, word):
    """Return the number of the words that the machine takes and that stand ahead of this word."""
    table, _ = machine
    counts = counts_to_ends(machine, len(word))
    ahead = sum([of_length[0] for of_length in counts[:len(word)]])
    state = 0
    for place, sign in enumerate(word):
        behind = counts[len(word) - place - 1]
        at = letters.index(sign)
        ahead += sum([behind[reached] for reached in table[state][:at]])
        state = table[state][at]
    return ahead


def place_of(letters, machine, word):
    """Return the place of the word, or None if the machine does not take it."""
    if not is_taken(letters, machine, word):
        return None
    return count_ahead(letters, machine, word)


def kth(letters, machine, place):
    """Return the word at this place, or raise NoWord if there is none of at most 200 signs."""
    counts = counts_to_ends(machine, MOST_SIGNS)
    for length in range(MOST_SIGNS + 1):
        if place < counts[length][0]:
            return word_of_length(letters, machine, counts, length, place)
        place = place - counts[length][0]
    raise NoWord()


def word_of_length(letters, machine, counts, length, place):
    """Return the word at this place among those of this length; there is one."""
    table, _ = machine
    signs = []
    state = 0
    for left in range(length - 1, -1, -1):
        at = 0
        while place >= counts[left][table[state][at]]:
            place = place - counts[left][table[state][at]]
            at += 1
        signs.append(letters[at])
        state = table[state][at]
    return "".join(signs)


def next_word(letters, machine, word):
    """Return the first word that the machine takes and that stands behind this one, or raise NoWord."""
    taken = 1 if is_taken(letters, machine, word) else 0
    return kth(letters, machine, count_ahead(letters, machine, word) + taken)
