"""Words in which each sign is exchanged for one by its place among the letters.

Python then compares such words of one length as point 1 does.
"""

from hallofwords.letters import ALPHABET


def to_ranks(letters, word):
    """Return the word with the first signs of the alphabet in the place of the letters."""
    return "".join([ALPHABET[letters.index(sign)] for sign in word])


def from_ranks(letters, word):
    """Return the word with the letters in the place of the first signs of the alphabet."""
    return "".join([letters[ALPHABET.index(sign)] for sign in word])


def turner_in_ranks(letters, turner):
    """Return the turner with all words that it writes in ranks."""
    moves, ends = turner
    return (
        [[[(to_ranks(letters, word), state) for word, state in listed] for listed in row] for row in moves],
        [[to_ranks(letters, word) for word in words] for words in ends],
    )


def first_words(words, most):
    """Return the first ones of words in ranks, each once, in order, at most so many."""
    once = {word: True for word in words}
    return sorted(list(once), key=lambda word: (len(word), word))[:most]
