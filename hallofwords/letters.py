"""Letters, words and their order."""

from hallofwords.errors import BadLetters, BadSize, BadWord

ALPHABET = "abcdefghijklmnopqrstuvwxyz"
MOST_LETTERS = 6


def check_letters(letters):
    """Raise BadLetters if the string is not 1 to 6 different signs from a to z."""
    if not 1 <= len(letters) <= MOST_LETTERS:
        raise BadLetters()
    for place, sign in enumerate(letters):
        if sign not in ALPHABET or sign in letters[:place]:
            raise BadLetters()


def check_word(letters, word, *, most=200):
    """Raise BadWord at the first sign that is no letter, then BadSize if the word is too long."""
    for place, sign in enumerate(word):
        if sign not in letters:
            raise BadWord(place)
    if len(word) > most:
        raise BadSize(len(word))


def in_order(letters, words):
    """Return the words, each once, in order."""
    once = {word: True for word in words}
    return sorted(list(once), key=lambda word: (len(word), [letters.index(sign) for sign in word]))


def ordered_signs(letters, signs):
    """Return the letters that stand among the signs, in the order of the letters."""
    return "".join([sign for sign in letters if sign in signs])
