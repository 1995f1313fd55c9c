"""Turners that are made up, and slow answers about them, straight from points 72 and 73."""

import random


def some_word(rng, letters, most):
    return "".join(rng.choice(letters) for _ in range(rng.randint(0, most)))


def some_turner(rng, letters, states=3, moves=(0, 1, 1, 2), ends=(0, 1, 1, 2), most=2):
    """A turner with at most so many states, with so many moves and end words as one of the numbers says."""
    many = rng.randint(1, states)
    return (
        [[list(dict.fromkeys((some_word(rng, letters, most), rng.randrange(many)) for _ in range(rng.choice(moves))))
          for _ in letters] for _ in range(many)],
        [list(dict.fromkeys(some_word(rng, letters, most) for _ in range(rng.choice(ends)))) for _ in range(many)],
    )


def some_turners(seed, number, letters=("a", "ab", "ba", "abc"), **told):
    rng = random.Random(seed)
    for _ in range(number):
        chosen = rng.choice(letters)
        yield chosen, some_turner(rng, chosen, **told)


def roads(letters, turner, word):
    """What is written on each road of the word, road by road."""
    begun = [("", 0)]
    for sign in word:
        begun = [(told + more, behind) for told, state in begun
                 for more, behind in turner[0][state][letters.index(sign)]]
    return [told + end for told, state in begun for end in turner[1][state]]


def in_their_order(letters, words):
    return sorted(set(words), key=lambda word: (len(word), [letters.index(sign) for sign in word]))


def answers(letters, turner, word):
    """All answers of the word, in order."""
    return in_their_order(letters, roads(letters, turner, word))
