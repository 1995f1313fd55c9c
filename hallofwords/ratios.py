"""Fractions: tuples of a whole number and a greater number that divides it, at least 1."""

from math import gcd, lcm


def ratio(over, under):
    """Return the fraction in lowest terms; the number under it is at least 1."""
    shared = gcd(over, under)
    return over // shared, under // shared


def is_at_most(one, other):
    """Tell whether the first fraction is not greater than the second one."""
    return one[0] * other[1] <= other[0] * one[1]


def sum_of(ratios):
    """Return the sum of the fractions."""
    over = 0
    under = 1
    for more, part in ratios:
        over, under = ratio(over * part + more * under, under * part)
    return over, under


def product_of(one, other):
    """Return the product of two fractions."""
    return ratio(one[0] * other[0], one[1] * other[1])


def in_wholes(ratios):
    """Return whole numbers that stand to one another as the fractions do, and the number that stands for 1."""
    whole = 1
    for _, part in ratios:
        whole = lcm(whole, part)
    return [over * (whole // part) for over, part in ratios], whole


def solved(rows):
    """Return the only numbers that keep the equations, each a list of factors and what they come to.

    For the first k equations and the first k numbers alone there has to be one answer, too, for each k,
    so that no rows are exchanged. The rows are kept whole: each step divides by the pivot of the step
    ahead, and nothing is left over.
    """
    rows = list(rows)
    divisor = 1
    for at in range(len(rows)):
        pivot = rows[at]
        rows = [row if place == at else cleared(row, pivot, at, divisor) for place, row in enumerate(rows)]
        divisor = pivot[at]
    return [ratio(row[-1], divisor) for row in rows]


def cleared(row, pivot, at, divisor):
    """Return the row with 0 at this place, made by means of the pivot."""
    factor = row[at]
    return [(pivot[at] * number - factor * other) // divisor for number, other in zip(row, pivot)]
