"""Double words, and the pairs of positions at which two roads for one word can stand.

Two roads that have parted stand at a pair of positions, maybe at the same one again. The pairs are
told by a list with a mask for each position: that of the positions which are in a pair with it.
"""

from hallofwords.bits import bits_of, mask_of


class Lines:
    """To which positions each position leads by each letter, as masks.

    The list once has for each letter a mask for each position, and twice has those positions to
    which a step counts more than once. Behind the last position stands the beginning.
    """

    def __init__(self, letters, numbers):
        signs, _, begins, steps, ends = numbers
        rows = steps + [begins]
        fitting = [mask_of([q for q, told in enumerate(signs) if sign in told]) for sign in letters]
        once = [mask_of([q for q, step in enumerate(row) if step]) for row in rows]
        twice = [mask_of([q for q, step in enumerate(row) if step > 1]) for row in rows]
        self.once = [[mask & fit for mask in once] for fit in fitting]
        self.twice = [[mask & fit for mask in twice] for fit in fitting]
        self.ending = mask_of([p for p, end in enumerate(ends) if end])
        self.ending_twice = mask_of([p for p, end in enumerate(ends) if end > 1])


def parting(lines, at, places):
    """Return the pairs at which two roads stand that part by this letter behind one of the positions."""
    once, twice = lines.once[at], lines.twice[at]
    found = {}
    for p in bits_of(places):
        for q in bits_of(once[p]):
            others = (once[p] ^ 1 << q) | (twice[p] & 1 << q)
            if others:
                found[q] = found.get(q, 0) | others
    return found


def parted_on(lines, at, pairs):
    """Return the pairs to which the letter leads from pairs."""
    once = lines.once[at]
    found = {}
    for p, others in pairs.items():
        behind = 0
        for other in bits_of(others):
            behind = behind | once[other]
        if behind:
            for q in bits_of(once[p]):
                found[q] = found.get(q, 0) | behind
    return found


def gone_on(lines, at, places, pairs):
    """Return the mask of the positions and the pairs to which the letter leads from positions and pairs."""
    reached = 0
    for p in bits_of(places):
        reached = reached | lines.once[at][p]
    found = parting(lines, at, places)
    for q, others in parted_on(lines, at, pairs).items():
        found[q] = found.get(q, 0) | others
    return reached, found


def fresh_pairs(met, found):
    """Return those of the pairs found that were not met yet."""
    fresh = {}
    for q, others in found.items():
        if others & ~met[q]:
            fresh[q] = others & ~met[q]
    return fresh


def is_double(lines, places, pairs):
    """Tell whether two roads end at one of the positions or pairs."""
    if places & lines.ending_twice:
        return True
    return any([1 << p & lines.ending and others & lines.ending for p, others in pairs.items()])


def search(letters, numbers):
    """Return the first double word with signs, or None, and the pairs that were met until then.

    The numbers are those at useful positions. Each position, and each pair, is met by the first
    word that leads there, and so the words come in their order.
    """
    lines = Lines(letters, numbers)
    many = len(numbers[0])
    met_places = 0
    met = [0] * many
    layer = [("", 1 << many, {})]
    while layer:
        following = []
        for word, places, pairs in layer:
            for at, sign in enumerate(letters):
                reached, found = gone_on(lines, at, places, pairs)
                reached = reached & ~met_places
                fresh = fresh_pairs(met, found)
                met_places = met_places | reached
                for q, others in fresh.items():
                    met[q] = met[q] | others
                if is_double(lines, reached, fresh):
                    return word + sign, met
                if reached or fresh:
                    following.append((word + sign, reached, fresh))
        layer = following
    return None, met


def pairs_of(met):
    """Return the pairs, the lesser position first, ascending."""
    return [(p, q) for p, others in enumerate(met) for q in bits_of(others) if p <= q]


def keeps_pairs(letters, numbers, pairs):
    """Tell whether all pairs that have to be among these are, and two roads end at none of them."""
    lines = Lines(letters, numbers)
    many = len(numbers[0])
    listed = {}
    for p, q in pairs:
        listed[p] = listed.get(p, 0) | 1 << q
        listed[q] = listed.get(q, 0) | 1 << p
    for at in range(len(letters)):
        due = [parting(lines, at, (2 << many) - 1), parted_on(lines, at, listed)]
        if any([others & ~listed.get(q, 0) for found in due for q, others in found.items()]):
            return False
    return not is_double(lines, 0, listed)
