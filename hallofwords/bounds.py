"""Numbers that show that chances and means are at most, or at least, as told."""

from hallofwords.drawing import can_come, drawn_steps
from hallofwords.ratios import is_at_most, product_of, sum_of

NOTHING = (0, 1)
ALL = (1, 1)


def sum_behind(source, row, numbers):
    """Return the sum of the numbers to which the letters that are drawn lead, each by its chance."""
    return sum_of([product_of(chance, numbers[state]) for chance, state in zip(source, row) if chance[0] > 0])


def one_more(number):
    """Return the fraction and 1 together."""
    return number[0] + number[1], number[1]


def is_high(letters, source, machine, numbers):
    """Tell whether the fractions are high numbers."""
    table, ends = machine
    if len(numbers) != len(table):
        return False
    for state, number in enumerate(numbers):
        if not is_at_most(NOTHING, number):
            return False
        if not is_at_most(ALL if ends[state] else sum_behind(source, table[state], numbers), number):
            return False
    return True


def is_low(letters, source, machine, numbers):
    """Tell whether the fractions are low numbers."""
    table, ends = machine
    if len(numbers) != len(table):
        return False
    steps, _ = drawn_steps(source, table)
    coming = can_come(steps, ends)
    for state, number in enumerate(numbers):
        if ends[state]:
            most = ALL
        else:
            most = sum_behind(source, table[state], numbers) if coming[state] else NOTHING
        if not is_at_most(number, most):
            return False
    return True


def is_high_means(letters, source, machine, numbers):
    """Tell whether the fractions and None are high means."""
    table, ends = machine
    if len(numbers) != len(table) or numbers[0] is None:
        return False
    for state, number in enumerate(numbers):
        if number is None:
            continue
        if not is_at_most(NOTHING, number):
            return False
        if not ends[state]:
            drawn = [numbers[reached] for chance, reached in zip(source, table[state]) if chance[0] > 0]
            if None in drawn or not is_at_most(one_more(sum_behind(source, table[state], numbers)), number):
                return False
    return True


def is_low_means(letters, source, machine, numbers):
    """Tell whether the fractions are low means."""
    table, ends = machine
    if len(numbers) != len(table):
        return False
    for state, number in enumerate(numbers):
        most = NOTHING if ends[state] else one_more(sum_behind(source, table[state], numbers))
        if not is_at_most(number, most):
            return False
    return True
