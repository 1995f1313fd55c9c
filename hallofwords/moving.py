"""Steps by moves between numbered nodes, and least lists of moves that lead to ends.

The steps are told by a list with a list for each node: that of the tuples (move, cost, node) of the
moves that can be made there, from the least one on, each with its cost and the node it leads to.
"""

from heapq import heappop, heappush

# The weight of a list of moves is its cost times this, and 1 for each move: it is far longer than a list.
PER_COST = 1000000000


def cost_of_move(costs, move):
    """Return the cost of a move."""
    put, drop, change = costs
    told = {"keep": 0, "change": change, "put": put, "drop": drop}
    return told[move[0]]


def with_costs(costs, leading):
    """Return the tuples (move, cost, node) for the tuples (move, node)."""
    return [(move, cost_of_move(costs, move), node) for move, node in leading]


def node_at(word, state, place):
    """Return the node of a state and a place in the word."""
    return state * (len(word) + 1) + place


def steps_on_word(letters, machine, word, costs):
    """Return the steps for reading the word and writing what leads from a state to another one."""
    steps = []
    for state, row in enumerate(machine[0]):
        for place in range(len(word) + 1):
            steps.append(with_costs(costs, moves_on_word(letters, row, word, state, place)))
    return steps


def moves_on_word(letters, row, word, state, place):
    """Return the moves that can be made at the state with this row and the place, each with its node."""
    puts = [(("put", y), node_at(word, reached, place)) for y, reached in zip(letters, row)]
    if place == len(word):
        return puts
    x = word[place]
    keep = (("keep", x), node_at(word, row[letters.index(x)], place + 1))
    changes = [(("change", x, y), node_at(word, reached, place + 1)) for y, reached in zip(letters, row) if y != x]
    return [keep] + changes + puts + [(("drop", x), node_at(word, state, place + 1))]


def ends_on_word(machine, word):
    """Tell for each node whether its state is an end and its place that behind the word."""
    return [end and place == len(word) for end in machine[1] for place in range(len(word) + 1)]


def pair_moves(letters, first_row, second_row, p, q):
    """Return the moves that can be made at two states with these rows, each with the pair it leads to."""
    keeps = [(("keep", x), (to, other)) for x, to, other in zip(letters, first_row, second_row)]
    changes = [
        (("change", x, y), (to, other))
        for x, to in zip(letters, first_row)
        for y, other in zip(letters, second_row)
        if x != y
    ]
    puts = [(("put", y), (p, other)) for y, other in zip(letters, second_row)]
    drops = [(("drop", x), (to, q)) for x, to in zip(letters, first_row)]
    return keeps + changes + puts + drops


def steps_on_pairs(letters, first, second, costs):
    """Return the steps between the pairs of states of two machines; a pair (p, q) has the number p * m + q."""
    many = len(second[0])
    steps = []
    for p, row in enumerate(first[0]):
        for q, other in enumerate(second[0]):
            moves = [(move, to * many + behind) for move, (to, behind) in pair_moves(letters, row, other, p, q)]
            steps.append(with_costs(costs, moves))
    return steps


def ends_on_pairs(first, second):
    """Tell for each pair of states whether both of them are ends."""
    return [end and other for end in first[1] for other in second[1]]


def weights_to_ends(steps, ends):
    """Return for each node the weight of the least list that leads to an end, None if there is none."""
    ahead = [[] for _ in steps]
    for node, leading in enumerate(steps):
        for _, cost, reached in leading:
            ahead[reached].append((node, cost * PER_COST + 1))
    weights = [None] * len(steps)
    waiting = []
    for node, end in enumerate(ends):
        if end:
            heappush(waiting, (0, node))
    while waiting:
        weight, node = heappop(waiting)
        if weights[node] is None:
            weights[node] = weight
            for before, more in ahead[node]:
                if weights[before] is None:
                    heappush(waiting, (weight + more, before))
    return weights


def costs_in(weights):
    """Return the costs in the weights."""
    return [None if weight is None else weight // PER_COST for weight in weights]


def least_list(steps, weights, node):
    """Return the least list of moves that leads from the node to an end; there is one."""
    found = []
    while weights[node] > 0:
        fitting = [
            (move, reached)
            for move, cost, reached in steps[node]
            if weights[reached] is not None and weights[reached] + cost * PER_COST + 1 == weights[node]
        ]
        move, node = fitting[0]
        found.append(move)
    return found


def in_rows(values, length):
    """Return the values in lists of this length."""
    return [values[begin:begin + length] for begin in range(0, len(values), length)]


def is_greater(number, cost, behind):
    """Tell whether the number is greater than the cost and what is behind together; None stands above all numbers."""
    if behind is None:
        return False
    return number is None or number > cost + behind


def is_right_table(numbers, many, length, steps, ends):
    """Tell whether the list has so many lists of this length, and no number is too great for the steps."""
    if len(numbers) != many or not all(len(row) == length for row in numbers):
        return False
    flat = [number for row in numbers for number in row]
    if any([end and is_greater(number, 0, 0) for number, end in zip(flat, ends)]):
        return False
    return not any([is_greater(flat[node], cost, flat[reached])
                    for node, leading in enumerate(steps) for _, cost, reached in leading])
