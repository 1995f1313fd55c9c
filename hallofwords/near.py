"""Moves, the distance of a word from a machine, nearest words, and the words around a machine."""

from hallofwords.bits import bits_of, mask_of
from hallofwords.errors import BadNumber, BadSize
from hallofwords.folds import made
from hallofwords.machines import is_taken, least
from hallofwords.moving import (
    cost_of_move,
    costs_in,
    ends_on_word,
    in_rows,
    is_right_table,
    least_list,
    node_at,
    steps_on_word,
    weights_to_ends,
)
from hallofwords.nearing import first_written
from hallofwords.rules import is_number

MOST_COST = 9
MOST_NEAR_STATES = 40
MOST_NEAR_SIGNS = 40


def check_costs(costs):
    """Raise BadNumber if one of the three elements is not a whole number from 1 to 9."""
    for cost in costs:
        if not is_number(cost) or not 1 <= cost <= MOST_COST:
            raise BadNumber()


def words_of(letters, moves):
    """Return the word that the list of moves reads and that which it writes, or None if one is no move."""
    read = []
    written = []
    for move in moves:
        if not is_move(letters, move):
            return None
        if move[0] != "put":
            read.append(move[1])
        if move[0] != "drop":
            written.append(move[-1])
    return "".join(read), "".join(written)


def is_move(letters, move):
    """Tell whether the tuple of strings is a move."""
    if not move or not all(sign in list(letters) for sign in move[1:]):
        return False
    if move[0] == "change":
        return len(move) == 3 and move[1] != move[2]
    return move[0] in ("keep", "put", "drop") and len(move) == 2


def cost_of(moves, *, costs=(1, 1, 1)):
    """Return the cost of the list of moves."""
    return sum([cost_of_move(costs, move) for move in moves])


def check_near(machine, word):
    """Raise BadSize if the machine has too many states, and then if the word has too many signs."""
    if len(machine[0]) > MOST_NEAR_STATES:
        raise BadSize(len(machine[0]))
    if len(word) > MOST_NEAR_SIGNS:
        raise BadSize(len(word))


def distance(letters, machine, word, *, costs=(1, 1, 1)):
    """Return the distance of the word from the machine, or None, or raise BadSize."""
    return numbers_of(letters, machine, word, costs=costs)[0][0]


def moves_of(letters, machine, word, *, costs=(1, 1, 1)):
    """Return the least moves that turn the word into one that is taken, or None, or raise BadSize."""
    check_near(machine, word)
    steps = steps_on_word(letters, machine, word, costs)
    weights = weights_to_ends(steps, ends_on_word(machine, word))
    return None if weights[0] is None else least_list(steps, weights, 0)


def numbers_of(letters, machine, word, *, costs=(1, 1, 1)):
    """Return the paper of the least costs, or raise BadSize."""
    check_near(machine, word)
    steps = steps_on_word(letters, machine, word, costs)
    weights = weights_to_ends(steps, ends_on_word(machine, word))
    return in_rows(costs_in(weights), len(word) + 1)


def nearest(letters, machine, word, *, most, costs=(1, 1, 1)):
    """Return the first nearest words, at most so many, in order, or raise BadSize."""
    check_near(machine, word)
    steps = steps_on_word(letters, machine, word, costs)
    ends = ends_on_word(machine, word)
    numbers = costs_in(weights_to_ends(steps, ends))
    # A node comes behind those to which it leads without being farther from the end: keeping goes on in the word.
    nodes = [
        (number, -place, node_at(word, state, place))
        for state, row in enumerate(in_rows(numbers, len(word) + 1))
        for place, number in enumerate(row)
        if number is not None
    ]
    return first_written(letters, steps, ends, numbers, [node for _, _, node in sorted(nodes)], most)


def is_numbers(letters, machine, word, numbers, *, costs=(1, 1, 1)):
    """Tell whether the list of lists is a right numbers paper."""
    steps = steps_on_word(letters, machine, word, costs)
    return is_right_table(numbers, len(machine[0]), len(word) + 1, steps, ends_on_word(machine, word))


def shows_distance(letters, machine, word, cost, moves, numbers, *, costs=(1, 1, 1)):
    """Tell whether the cost, the list of moves or None, and the paper show the distance."""
    if not is_numbers(letters, machine, word, numbers, costs=costs) or numbers[0][0] != cost:
        return False
    if cost is None or moves is None:
        return cost is None and moves is None
    told = words_of(letters, moves)
    if told is None or told[0] != word or not is_taken(letters, machine, told[1]):
        return False
    return cost_of(moves, costs=costs) == cost


def around(letters, machine, many):
    """Return the machine of the words that are at most so far away, or raise BadSize, TooMany or TooGreat."""
    if len(machine[0]) > MOST_NEAR_STATES:
        raise BadSize(len(machine[0]))
    table, ends = least(letters, machine)
    ending = mask_of([state for state, end in enumerate(ends) if end])

    # A thing has for each cost the mask of the states that a word leads to at this cost or a lesser one.
    def step(thing, at):
        found = []
        for cost, mask in enumerate(thing):
            reached = mask_of([table[state][at] for state in bits_of(mask)])
            if cost > 0:
                cheaper = thing[cost - 1]
                reached = reached | cheaper | by_any_letter(table, cheaper) | by_any_letter(table, found[-1])
            found.append(reached)
        return tuple(found)

    first = [1]
    for _ in range(many):
        first.append(first[-1] | by_any_letter(table, first[-1]))
    return made(letters, tuple(first), step, lambda thing: thing[-1] & ending != 0)


def by_any_letter(table, mask):
    """Return the mask of the states to which letters lead from those of the mask."""
    return mask_of([reached for state in bits_of(mask) for reached in table[state]])
