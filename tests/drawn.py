"""Sources that are made up, and slow answers about words that are drawn, by Python's own fractions."""

import random
from fractions import Fraction


def pair(value):
    """The fraction as the program tells it."""
    return None if value is None else (value.numerator, value.denominator)


def some_source(rng, letters, zeros=True):
    """A source, often with letters that are not drawn."""
    while True:
        parts = [rng.choice([0, 0, 1, 2, 3, 5] if zeros else [1, 2, 3, 5]) for _ in letters]
        if sum(parts):
            return [pair(Fraction(part, sum(parts))) for part in parts]


def some_sources(seed, number, letters=("a", "ab", "ba", "abc"), zeros=True):
    rng = random.Random(seed)
    for _ in range(number):
        chosen = rng.choice(letters)
        yield rng, chosen, some_source(rng, chosen, zeros)


def of_letters(source):
    return [Fraction(*chance) for chance in source]


def chance(letters, source, word):
    product = Fraction(1)
    for sign in word:
        product *= of_letters(source)[letters.index(sign)]
    return product


def solve(rows):
    """The only numbers that keep the equations, each a list of factors and what they come to; None without such."""
    rows = [[Fraction(number) for number in row] for row in rows]
    for at in range(len(rows)):
        chosen = next((place for place in range(at, len(rows)) if rows[place][at] != 0), None)
        if chosen is None:
            return None
        rows[at], rows[chosen] = rows[chosen], rows[at]
        rows[at] = [number / rows[at][at] for number in rows[at]]
        for place in range(len(rows)):
            if place != at:
                rows[place] = [one - rows[place][at] * other for one, other in zip(rows[place], rows[at])]
    return [row[-1] for row in rows]


def reaching(leads, goals):
    """The nodes from which a goal is come to; leads has the nodes behind each node."""
    found = set(goals)
    while True:
        more = {node for node, behind in leads.items() if node not in found and found & set(behind)}
        if not more:
            return found
        found |= more


def chances_of(steps, goals):
    """The chance of each node that a goal is come to; steps has for each node a list of (chance, node)."""
    leads = {node: [behind for part, behind in listed if part] for node, listed in steps.items()}
    coming = reaching(leads, goals)
    nodes = [node for node in steps if node in coming and node not in goals]
    rows = []
    for node in nodes:
        row = [Fraction(int(node == other)) for other in nodes] + [Fraction(0)]
        for part, behind in steps[node]:
            if behind in goals:
                row[-1] += part
            elif behind in coming:
                row[nodes.index(behind)] -= part
        rows.append(row)
    found = {node: Fraction(int(node in goals)) for node in steps}
    found.update(zip(nodes, solve(rows)))
    return found


def machine_steps(source, machine):
    return {state: list(zip(of_letters(source), row)) for state, row in enumerate(machine[0])}


def chances_by_state(source, machine):
    ends = {state for state, end in enumerate(machine[1]) if end}
    found = chances_of(machine_steps(source, machine), ends)
    return [found[state] for state in range(len(machine[0]))]


def means_by_state(source, machine):
    chances = chances_by_state(source, machine)
    nodes = [state for state, told in enumerate(chances) if told == 1 and not machine[1][state]]
    rows = []
    for state in nodes:
        row = [Fraction(int(state == other)) for other in nodes] + [Fraction(1)]
        for part, behind in zip(of_letters(source), machine[0][state]):
            if part and behind in nodes:
                row[nodes.index(behind)] -= part
        rows.append(row)
    found = [Fraction(0) if told == 1 else None for told in chances]
    for state, mean in zip(nodes, solve(rows)):
        found[state] = mean
    return found
