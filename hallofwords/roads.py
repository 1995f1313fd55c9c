"""The numbers of a rule at its positions, and the worth of roads.

The numbers are told by a tuple (signs, e, begins, steps, ends) as positions_of returns it.
"""

from hallofwords.bits import bits_of, mask_of
from hallofwords.rules import rules_in


def numbers_of_rule(rule):
    """Return the numbers of a rule without both and not at all its positions."""
    kind = rule[0]
    if kind == "none":
        return ([], 0, [], [], [])
    if kind == "empty":
        return ([], 1, [], [], [])
    if kind == "one":
        return ([rule[1]], 0, [1], [[0]], [1])
    inner = [numbers_of_rule(part) for part in rules_in(rule)]
    if kind == "times":
        return in_copies(inner[0], rule[2], rule[3])
    found = inner[0]
    for other in inner[1:]:
        found = in_either(found, other) if kind == "either" else in_row(found, other)
    return found


def in_either(first, second):
    """Return the numbers of the either of two rules."""
    signs, e, begins, steps, ends = first
    other_signs, other_e, other_begins, other_steps, other_ends = second
    across = [row + [0] * len(other_signs) for row in steps]
    back = [[0] * len(signs) + row for row in other_steps]
    return (signs + other_signs, e + other_e, begins + other_begins, across + back, ends + other_ends)


def in_row(first, second):
    """Return the numbers of the row of two rules."""
    signs, e, begins, steps, ends = first
    other_signs, other_e, other_begins, other_steps, other_ends = second
    across = [row + [end * begin for begin in other_begins] for row, end in zip(steps, ends)]
    back = [[0] * len(signs) + row for row in other_steps]
    return (
        signs + other_signs,
        e * other_e,
        begins + [e * begin for begin in other_begins],
        across + back,
        [end * other_e for end in ends] + other_ends,
    )


def in_copies(inner, low, high):
    """Return the numbers of the times of a rule."""
    signs, e, begins, steps, ends = inner
    copies = range(1, (low + 1 if high is None else high) + 1)
    places = range(len(signs))
    return (
        signs * len(copies),
        power(e, low),
        [begin * power(e, copy - 1) if copy <= low + 1 else 0 for copy in copies for begin in begins],
        [
            [
                factor_between(e, low, high, copy, other) * ends[p] * begins[q] + (steps[p][q] if copy == other else 0)
                for other in copies
                for q in places
            ]
            for copy in copies
            for p in places
        ],
        [end * power(e, low - copy) if copy <= low else end for copy in copies for end in ends],
    )


def power(number, exponent):
    """Return the power of the number; 1 for the exponent 0."""
    found = 1
    for _ in range(exponent):
        found = found * number
    return found


def factor_between(e, low, high, copy, other):
    """Return how often the end of one copy and the begin of another one, or of the same one, count together."""
    if copy < other <= low + 1:
        return power(e, other - copy - 1)
    if copy > low and other == copy + 1:
        return 1
    if copy == other == low + 1 and high is None:
        return 1
    return 0


def useful_places(numbers):
    """Return the useful positions, ascending."""
    signs, _, begins, steps, ends = numbers
    places = range(len(signs))
    behind = [mask_of([q for q in places if steps[p][q]]) for p in places]
    ahead = [mask_of([p for p in places if steps[p][q]]) for q in places]
    come_to = spread([p for p in places if begins[p]], behind)
    go_out = spread([p for p in places if ends[p]], ahead)
    return bits_of(come_to & go_out)


def spread(places, leading):
    """Return the mask of these places and of all those to which they lead, one after the other."""
    found = mask_of(places)
    fresh = found
    while fresh:
        reached = 0
        for place in bits_of(fresh):
            reached = reached | leading[place]
        fresh = reached & ~found
        found = found | fresh
    return found


def useful_numbers(numbers):
    """Return the numbers with 0 where a position is not useful."""
    signs, e, begins, steps, ends = numbers
    useful = {place: True for place in useful_places(numbers)}
    return (
        signs,
        e,
        [begin if p in useful else 0 for p, begin in enumerate(begins)],
        [[step if p in useful and q in useful else 0 for q, step in enumerate(row)] for p, row in enumerate(steps)],
        [end if p in useful else 0 for p, end in enumerate(ends)],
    )


def worth_of_roads(numbers, fits):
    """Return the sum of the worths of roads with a position for each list in fits.

    Each of these lists has for each position how often it counts there.
    """
    _, e, begins, steps, ends = numbers
    if not fits:
        return e
    leading = [[(q, step) for q, step in enumerate(row) if step] for row in steps]
    worths = [begin * fit for begin, fit in zip(begins, fits[0])]
    for fit in fits[1:]:
        moved = [0] * len(worths)
        for p, worth in enumerate(worths):
            if worth:
                for q, step in leading[p]:
                    if fit[q]:
                        moved[q] += worth * step
        worths = [worth * often for worth, often in zip(moved, fit)]
    return sum([worth * end for worth, end in zip(worths, ends)])
