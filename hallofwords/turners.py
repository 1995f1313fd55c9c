"""Turners: their roads and answers, their domains and images, and turners that are made of others."""

from hallofwords.bits import bits_of, mask_of
from hallofwords.errors import BadSize, BadTurner
from hallofwords.folds import made
from hallofwords.imaging import places_to_write
from hallofwords.machines import least, run_from
from hallofwords.ranks import first_words, from_ranks, turner_in_ranks
from hallofwords.rules import is_number

MOST_TURNER_STATES = 36
MOST_MOVES = 13
MOST_END_WORDS = 7
MOST_WRITTEN = 12
MOST_STATES_BEHIND = 6
MOST_WRITTEN_BEHIND = 3


def check_turner(letters, turner):
    """Raise BadTurner if the tuple is no turner."""
    moves, ends = turner
    if not 1 <= len(moves) <= MOST_TURNER_STATES or len(ends) != len(moves):
        raise BadTurner()
    for row, words in zip(moves, ends):
        if len(row) != len(letters) or not all(are_moves(letters, listed, len(moves)) for listed in row):
            raise BadTurner()
        if not are_different(words, MOST_END_WORDS) or not all(is_written(letters, word) for word in words):
            raise BadTurner()


def are_moves(letters, listed, many):
    """Tell whether the tuples are moves, no two of them equal, of a turner with so many states."""
    if not all(is_written(letters, word) and is_number(state) and 0 <= state < many for word, state in listed):
        return False
    return are_different(listed, MOST_MOVES)


def is_written(letters, word):
    """Tell whether a turner may write the string at once."""
    return len(word) <= MOST_WRITTEN and all(sign in letters for sign in word)


def are_different(values, most):
    """Tell whether there are at most so many values, and no two of them are equal."""
    return len(values) <= most and not any([values[k] in values[:k] for k in range(len(values))])


def road_count(letters, turner, word):
    """Return the number of different roads of the word."""
    moves, ends = turner
    counts = [0] * len(moves)
    counts[0] = 1
    for sign in word:
        at = letters.index(sign)
        moved = [0] * len(moves)
        for state, number in enumerate(counts):
            if number:
                for _, reached in moves[state][at]:
                    moved[reached] += number
        counts = moved
    return sum([number * len(words) for number, words in zip(counts, ends)])


def outs(letters, turner, word, *, most=50):
    """Return the first answers of the word, at most so many, in order.

    For each state the first words that are written on the way to it are enough.
    """
    moves, ends = turner_in_ranks(letters, turner)
    reached = {0: [""]}
    for sign in word:
        at = letters.index(sign)
        found = {}
        for state, words in reached.items():
            for written, behind in moves[state][at]:
                found.setdefault(behind, []).extend([told + written for told in words])
        reached = {state: first_words(words, most) for state, words in found.items()}
    answers = [told + end for state, words in reached.items() for told in words for end in ends[state]]
    return [from_ranks(letters, answer) for answer in first_words(answers, most)]


def has_answer(letters, turner, word, answer):
    """Tell whether this is an answer of the word."""
    moves, ends = turner
    fitting = places_of_words(turner, answer)
    # For each state the mask of the lengths of what can be written on the way to it, as the answer begins.
    reached = {0: 1}
    for sign in word:
        at = letters.index(sign)
        found = {}
        for state, mask in reached.items():
            for written, behind in moves[state][at]:
                longer = (mask & fitting[written]) << len(written)
                if longer:
                    found[behind] = found.get(behind, 0) | longer
        reached = found
    whole = [
        (mask & fitting[end]) << len(end) >> len(answer) & 1
        for state, mask in reached.items()
        for end in ends[state]
    ]
    return 1 in whole


def places_of_words(turner, answer):
    """Return for each word that the turner writes the mask of the places of the answer at which it stands."""
    moves, ends = turner
    written = [word for row in moves for listed in row for word, _ in listed]
    written.extend([word for words in ends for word in words])
    found = {}
    for word in written:
        if word not in found:
            found[word] = mask_of(places_in(answer, word))
    return found


def places_in(text, word):
    """Return the places of the text at which the word stands."""
    found = []
    place = text.find(word)
    while place >= 0:
        found.append(place)
        place = text.find(word, place + 1)
    return found


def every_word(letters):
    """Return the machine of all words."""
    return ([[0] * len(letters)], [True])


def domain(letters, turner, *, into=None):
    """Return the machine of the words that have an answer that the machine takes, or raise TooMany or TooGreat."""
    moves, ends = turner
    machine = every_word(letters) if into is None else least(letters, into)
    many = len(machine[0])
    # A pair (q, s) has the number q * many + s, and a set of pairs is a mask.
    leading = [
        [mask_of([behind * many + run_from(letters, machine, s, word) for word, behind in row[at]])
         for row in moves for s in range(many)]
        for at in range(len(letters))
    ]
    ending = mask_of([
        q * many + s
        for q, words in enumerate(ends)
        for s in range(many)
        if any([machine[1][run_from(letters, machine, s, word)] for word in words])
    ])

    def step(mask, at):
        found = 0
        for pair in bits_of(mask):
            found = found | leading[at][pair]
        return found

    return made(letters, 1, step, lambda mask: mask & ending != 0)


def images(letters, turner, *, of=None):
    """Return the machine of the answers of the words that the machine takes, or raise TooMany or TooGreat."""
    machine = every_word(letters) if of is None else least(letters, of)
    first, leading, end = places_to_write(letters, turner, machine)

    def step(mask, at):
        starting, reached = leading[at]
        found = 0
        for place in bits_of(mask & starting):
            found = found | reached[place]
        return found

    return made(letters, first, step, lambda mask: mask & end != 0)


def same_of(letters, machine):
    """Return the turner of the machine, or raise BadSize."""
    table, ends = least(letters, machine)
    if len(table) > MOST_TURNER_STATES:
        raise BadSize(len(table))
    moves = [[[(sign, state)] for sign, state in zip(letters, row)] for row in table]
    return moves, [[""] if end else [] for end in ends]


def one_move(letters):
    """Return the turner of one move."""
    before = []
    for x in letters:
        changes = [(y, 1) for y in letters if y != x]
        before.append([(x, 0), ("", 1)] + changes + [(y + x, 1) for y in letters])
    return [before, [[(x, 1)] for x in letters]], [[""] + list(letters), [""]]


def then(letters, first, second):
    """Return the turner of the second one behind the first one, or raise BadSize."""
    for turner in (first, second):
        if len(turner[0]) > MOST_STATES_BEHIND:
            raise BadSize(len(turner[0]))
    for turner in (first, second):
        if longest_written(turner) > MOST_WRITTEN_BEHIND:
            raise BadSize(longest_written(turner))
    pairs = [(0, 0)]
    moves = []
    ends = []
    while len(moves) < len(pairs):
        p, q = pairs[len(moves)]
        row = []
        for listed in first[0][p]:
            row.append(moves_behind(letters, second[0], listed, q, pairs))
        moves.append(row)
        ends.append(end_words_behind(letters, second, first[1][p], q))
    return moves, ends


def longest_written(turner):
    """Return the length of the longest word that the turner writes at once."""
    moves, ends = turner
    lengths = [len(word) for row in moves for listed in row for word, _ in listed]
    return max([0] + lengths + [len(word) for words in ends for word in words])


def readings(letters, moves, word, state):
    """Return the ways to read the word from the state: tuples of what is written and the state, each once."""
    found = [("", state)]
    for sign in word:
        at = letters.index(sign)
        longer = [(told + more, behind) for told, before in found for more, behind in moves[before][at]]
        found = once_each(longer)
    return found


def once_each(values):
    """Return the values, each at the place at which it comes first."""
    return list({value: True for value in values})


def moves_behind(letters, moves, listed, q, pairs):
    """Return the moves of a pair for the moves listed of the first turner, or raise BadSize; new pairs are put in."""
    met = []
    for word, p in listed:
        met.extend([(written, (p, behind)) for written, behind in readings(letters, moves, word, q)])
    met = once_each(met)
    pairs.extend(once_each([pair for _, pair in met if pair not in pairs]))
    if len(met) > MOST_MOVES:
        raise BadSize(len(met))
    return [(written, pairs.index(pair)) for written, pair in met]


def end_words_behind(letters, second, words, q):
    """Return the end words of a pair for these of the first turner, or raise BadSize."""
    moves, ends = second
    found = once_each([
        written + end
        for word in words
        for written, behind in readings(letters, moves, word, q)
        for end in ends[behind]
    ])
    if len(found) > MOST_END_WORDS:
        raise BadSize(len(found))
    return found
