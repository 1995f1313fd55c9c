"""Recurrences of the numbers of words."""

from hallofwords.bits import bits_of
from hallofwords.errors import BadSize
from hallofwords.machines import counts_to_ends, least

MOST_LEAST_STATES = 24


def small_least(letters, machine):
    """Return the least machine, or raise BadSize with the number of its states."""
    lesser = least(letters, machine)
    if len(lesser[0]) > MOST_LEAST_STATES:
        raise BadSize(len(lesser[0]))
    return lesser


def counts_upto(machine, length):
    """Return the list of the numbers of words of the lengths from 0 to this one."""
    return [of_length[0] for of_length in counts_to_ends(machine, length)]


def recurrence(letters, machine):
    """Return the shortest list that holds and the least length from which it holds, or raise BadSize."""
    lesser = small_least(letters, machine)
    many = len(lesser[0])
    counts = counts_upto(lesser, 2 * many)
    # The whole row of numbers keeps the equation of as many numbers as the greatest square that can be solved has.
    size = many
    numbers = solved(rows_of(counts, size))
    while numbers is None:
        size -= 1
        numbers = solved(rows_of(counts, size))
    length = 0
    while length < size and numbers[length] == 0:
        length += 1
    return numbers[length:][::-1], length


def rows_of(counts, size):
    """Return the equations of so many numbers, each with what it has to come to as its last element."""
    return [counts[place:place + size + 1] for place in range(size)]


def solved(rows):
    """Return the whole numbers that keep the equations, or None if these are not the only ones.

    The rows are kept whole: each step divides by the pivot of the step ahead, and nothing is left over.
    """
    rows = list(rows)
    divisor = 1
    for at in range(len(rows)):
        chosen = [place for place in range(at, len(rows)) if rows[place][at] != 0]
        if not chosen:
            return None
        pivot = rows[chosen[0]]
        rows[chosen[0]] = rows[at]
        rows[at] = pivot
        rows = [row if place == at else without(row, pivot, at, divisor) for place, row in enumerate(rows)]
        divisor = pivot[at]
    return [row[-1] // divisor for row in rows]


def without(row, pivot, at, divisor):
    """Return the row with 0 at this place, made by means of the pivot."""
    factor = row[at]
    return [(pivot[at] * number - factor * other) // divisor for number, other in zip(row, pivot)]


def square(letters, machine):
    """Return the square of the recurrence, or raise BadSize."""
    numbers, length = recurrence(letters, machine)
    counts = counts_upto(machine, length + 2 * len(numbers))
    return [counts[place:place + len(numbers)] for place in range(length, length + len(numbers))]


def is_recurrence(letters, machine, numbers, length):
    """Tell whether the list and the length are the recurrence, or raise BadSize."""
    return recurrence(letters, machine) == (numbers, length)


def count_rest(letters, machine, length, divisor):
    """Return the rest of the number of words of this length by the divisor, or raise BadSize."""
    numbers, begin = recurrence(letters, machine)
    counts = counts_upto(machine, begin + len(numbers))
    if length < len(counts):
        return counts[length] % divisor
    factors = power_rest(numbers, length - begin, divisor)
    return sum([factor * number for factor, number in zip(factors, counts[begin:])]) % divisor


def power_rest(numbers, exponent, divisor):
    """Return the factors by which a number of words so far on is put together from the first ones.

    For a list of L numbers these are the first L ones from which on the list holds. They are the
    factors of x ** 0, x ** 1 and so on in the rest of x ** exponent by the polynomial of the list.
    """
    if not numbers:
        return []
    factors = reduced([1], numbers, divisor)
    digits = bits_of(exponent)
    for place in range(exponent.bit_length() - 1, -1, -1):
        shift = 1 if place in digits else 0
        factors = reduced([0] * shift + squared(factors), numbers, divisor)
    return factors


def squared(factors):
    """Return the factors of the square of a polynomial."""
    found = [0] * (2 * len(factors) - 1)
    for place, factor in enumerate(factors):
        for other, another in enumerate(factors):
            found[place + other] += factor * another
    return found


def reduced(factors, numbers, divisor):
    """Return the factors of the rest of a polynomial by that of the list, each of them by the divisor."""
    left = [factor % divisor for factor in factors]
    while len(left) > len(numbers):
        greatest = left.pop()
        for back, number in enumerate(numbers, start=1):
            left[len(left) - back] = (left[len(left) - back] + greatest * number) % divisor
    return left + [0] * (len(numbers) - len(left))


def parting_length(letters, first, second):
    """Return the least length for which the two machines have unlike numbers of words, or None."""
    longest = len(first[0]) + len(second[0]) - 1
    for length, (one, other) in enumerate(zip(counts_upto(first, longest), counts_upto(second, longest))):
        if one != other:
            return length
    return None
