"""Slow answers about games, straight from point 114: by all that the two sides can write."""

import functools


def led(machine, key):
    state, side = key
    return [(behind, 1 - side) for behind in machine[0][state]]


def all_keys(machine):
    return [(state, side) for state in range(len(machine[0])) for side in (0, 1)]


def has_end(machine, key):
    return machine[1][key[0]]


def choose(who, key, values, best=max, worst=min):
    """What comes of the values behind the letters, if the side that writes takes what is best for it."""
    return best(values) if key[1] == who else worst(values)


def can_bring(machine, who, goals):
    """A function (key, signs) that tells whether a goal can be brought after at most so many signs."""
    @functools.lru_cache(maxsize=None)
    def can(key, signs):
        if key in goals:
            return True
        return signs > 0 and choose(who, key, [can(behind, signs - 1) for behind in led(machine, key)])
    return can


def slow_ranks(machine, who, goals):
    """The rank of each key, None without one: behind as many signs as there are keys nothing new is brought."""
    can = can_bring(machine, who, frozenset(goals))
    most = 2 * len(machine[0])
    return {key: next((r for r in range(most + 1) if can(key, r)), None) for key in all_keys(machine)}


def as_table(machine, values):
    return [[values[state, side] for side in (0, 1)] for state in range(len(machine[0]))]


def ends_of(machine):
    return [key for key in all_keys(machine) if has_end(machine, key)]
