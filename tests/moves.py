"""Slow answers about moves, straight from points 61 and 62."""

import functools
import itertools

KINDS = ["keep", "change", "put", "drop"]


def all_moves(letters):
    return ([("keep", x) for x in letters] + [("change", x, y) for x in letters for y in letters if x != y]
            + [("put", y) for y in letters] + [("drop", x) for x in letters])


def cost(moves, costs):
    put, drop, change = costs
    return sum({"keep": 0, "change": change, "put": put, "drop": drop}[move[0]] for move in moves)


def read(moves):
    return "".join(move[1] for move in moves if move[0] != "put")


def written(moves):
    return "".join(move[-1] for move in moves if move[0] != "drop")


def key(letters, moves, costs):
    """What puts lists of moves in the order of point 62."""
    return cost(moves, costs), len(moves), [
        (KINDS.index(move[0]), [letters.index(sign) for sign in move[1:]]) for move in moves
    ]


@functools.lru_cache(None)
def least_lists(letters, most, costs):
    """The least list for each pair of words with at most so many signs together, of all lists of moves."""
    found = {}
    for many in range(most + 1):
        for moves in itertools.product(all_moves(letters), repeat=many):
            pair = (read(moves), written(moves))
            if len(pair[0]) + len(pair[1]) <= most:
                if pair not in found or key(letters, moves, costs) < key(letters, found[pair], costs):
                    found[pair] = moves
    return found


@functools.lru_cache(None)
def word_cost(one, other, costs):
    """The least cost of a list of moves that turns one word into another one."""
    put, drop, change = costs
    if not one or not other:
        return len(one) * drop + len(other) * put
    return min(
        word_cost(one[1:], other[1:], costs) + (0 if one[0] == other[0] else change),
        word_cost(one[1:], other, costs) + drop,
        word_cost(one, other[1:], costs) + put,
    )
