"""Steps that are drawn by chance: what they come to in the end, and after how many of them.

The steps are told by a list with a list for each node: that of the tuples (weight, node) of the
steps that are drawn there. The weights at a node sum up to the number that stands for the chance 1.
"""

from hallofwords.ratios import in_wholes, solved


def drawn_steps(source, table):
    """Return the steps from state to state by the letters that are drawn, and the number that stands for 1."""
    weights, whole = in_wholes(source)
    return [[(weight, state) for weight, state in zip(weights, row) if weight > 0] for row in table], whole


def can_come(steps, goals):
    """Tell for each node whether a goal can be come to from it."""
    found = list(goals)
    many = -1
    while sum(found) > many:
        many = sum(found)
        found = [known or any([found[node] for _, node in leading]) for known, leading in zip(found, steps)]
    return found


def equation(steps, whole, nodes, node, more):
    """Return the equation of a node among those with unknown numbers, which asks for more behind the steps."""
    row = [0] * len(nodes) + [more]
    places = {unknown: place for place, unknown in enumerate(nodes)}
    row[places[node]] = whole
    for weight, reached in steps[node]:
        if reached in places:
            row[places[reached]] -= weight
    return row


def chances_to(steps, whole, goals):
    """Return for each node the chance that a goal is come to from it."""
    coming = can_come(steps, goals)
    nodes = [node for node, goal in enumerate(goals) if coming[node] and not goal]
    rows = []
    for node in nodes:
        at_once = sum([weight for weight, reached in steps[node] if goals[reached]])
        rows.append(equation(steps, whole, nodes, node, at_once))
    found = [(1, 1) if goal else (0, 1) for goal in goals]
    for node, chance in zip(nodes, solved(rows)):
        found[node] = chance
    return found


def means_to(steps, whole, goals):
    """Return for each node the mean number of steps to a goal, None where a goal is not come to with the chance 1."""
    chances = chances_to(steps, whole, goals)
    found = [(0, 1) if chance == (1, 1) else None for chance in chances]
    nodes = [node for node, goal in enumerate(goals) if found[node] is not None and not goal]
    rows = [equation(steps, whole, nodes, node, whole) for node in nodes]
    for node, mean in zip(nodes, solved(rows)):
        found[node] = mean
    return found
