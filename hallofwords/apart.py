"""The least costs between the words of two machines, and between two different words of one machine."""

from hallofwords.errors import BadSize
from hallofwords.machines import is_taken
from hallofwords.moving import (
    costs_in,
    ends_on_pairs,
    in_rows,
    is_right_table,
    least_list,
    pair_moves,
    steps_on_pairs,
    weights_to_ends,
    with_costs,
)
from hallofwords.near import cost_of, words_of

MOST_PAIRED_STATES = 40
MOST_APART_STATES = 20


def check_states(machine, most):
    """Raise BadSize with the number of states if there are more than so many."""
    if len(machine[0]) > most:
        raise BadSize(len(machine[0]))


def least_between(steps, ends):
    """Return the least cost and the least list from node 0 to an end, or None."""
    weights = weights_to_ends(steps, ends)
    if weights[0] is None:
        return None
    return (costs_in(weights[:1])[0], least_list(steps, weights, 0))


def between(letters, first, second, *, costs=(1, 1, 1)):
    """Return the least cost and the least list between words of the two machines, or None, or raise BadSize."""
    check_states(first, MOST_PAIRED_STATES)
    check_states(second, MOST_PAIRED_STATES)
    return least_between(steps_on_pairs(letters, first, second, costs), ends_on_pairs(first, second))


def pair_numbers(letters, first, second, *, costs=(1, 1, 1)):
    """Return the pair numbers paper of the least costs, or raise BadSize."""
    check_states(first, MOST_PAIRED_STATES)
    check_states(second, MOST_PAIRED_STATES)
    weights = weights_to_ends(steps_on_pairs(letters, first, second, costs), ends_on_pairs(first, second))
    return in_rows(costs_in(weights), len(second[0]))


def is_pair_numbers(letters, first, second, numbers, *, costs=(1, 1, 1)):
    """Tell whether the list of lists is a right pair numbers paper."""
    steps = steps_on_pairs(letters, first, second, costs)
    return is_right_table(numbers, len(first[0]), len(second[0]), steps, ends_on_pairs(first, second))


def shows_between(letters, first, second, cost, moves, numbers, *, costs=(1, 1, 1)):
    """Tell whether the cost, the list of moves or None, and the paper show the least cost between the machines."""
    if not is_pair_numbers(letters, first, second, numbers, costs=costs) or numbers[0][0] != cost:
        return False
    if cost is None or moves is None:
        return cost is None and moves is None
    told = words_of(letters, moves)
    if told is None or not is_taken(letters, first, told[0]) or not is_taken(letters, second, told[1]):
        return False
    return cost_of(moves, costs=costs) == cost


def apart(letters, machine, *, costs=(1, 1, 1)):
    """Return the least cost and the least list between two different words of the machine, or None, or raise BadSize.

    The list keeps the signs with which both words begin. Behind these it goes through nodes
    (kind, p, q) of states to which what is read and what is written lead: of the kind ("read", x)
    if what was read begins with x and nothing was written, of the kind ("written", y) likewise,
    of the kind ("apart", "") if the first signs of both are known to be different. As long as
    signs are kept, the kind is ("same", "").
    """
    check_states(machine, MOST_APART_STATES)
    nodes = [(("same", ""), 0, 0)]
    numbers = {nodes[0]: 0}
    leading = []
    while len(leading) < len(nodes):
        moves = moves_apart(letters, machine[0], nodes[len(leading)])
        for _, reached in moves:
            if reached not in numbers:
                numbers[reached] = len(nodes)
                nodes.append(reached)
        leading.append(moves)
    steps = [with_costs(costs, [(move, numbers[reached]) for move, reached in moves]) for moves in leading]
    ends = [kind[0] != "same" and machine[1][p] and machine[1][q] for kind, p, q in nodes]
    return least_between(steps, ends)


def moves_apart(letters, table, node):
    """Return the moves that can be made at the node, each with the node it leads to."""
    kind, p, q = node
    found = []
    for move, (to, other) in pair_moves(letters, table[p], table[q], p, q):
        behind = kind_behind(kind, move)
        if behind is not None:
            found.append((move, (behind, to, other)))
    return found


def kind_behind(kind, move):
    """Return the kind of the node to which the move leads from one of this kind, or None if it may not be made."""
    if kind[0] == "apart":
        return kind
    if kind[0] == "same" and move[0] == "keep":
        return kind
    read = kind[1] if kind[0] == "read" else ""
    written = kind[1] if kind[0] == "written" else ""
    if move[0] != "put" and read == "":
        read = move[1]
    if move[0] != "drop" and written == "":
        written = move[-1]
    if written == "":
        return ("read", read)
    if read == "":
        return ("written", written)
    return ("apart", "") if read != written else None
