"""The keys of a game, where letters lead from them, and after how many signs one side can bring some of them.

A key is a tuple (state, side) of the state at which the machine stands and the side that writes next.
"""


def keys_of(machine):
    """Return all keys, ascending."""
    return [(state, side) for state in range(len(machine[0])) for side in (0, 1)]


def keys_behind(machine, key):
    """Return the keys to which the letters lead, letter for letter."""
    state, side = key
    return [(reached, 1 - side) for reached in machine[0][state]]


def keys_with_ends(machine):
    """Return the keys with ends, ascending."""
    return [key for key in keys_of(machine) if machine[1][key[0]]]


def can_lead(machine, who, key, keys):
    """Tell whether the side can write so that one of these keys comes behind the key, told by a dict."""
    return has_way(key[1] == who, [behind in keys for behind in keys_behind(machine, key)])


def has_way(writes, held):
    """Tell whether what has to hold holds: for some letter if the side writes itself, otherwise for each."""
    return any(held) if writes else all(held)


def ranks_to(machine, who, goals):
    """Return a dict with the least number of signs after which the side can bring one of the goals, where it can."""
    ranks = {key: 0 for key in goals}
    fresh = goals
    rank = 0
    while fresh:
        rank += 1
        fresh = [key for key in keys_of(machine) if key not in ranks and can_lead(machine, who, key, ranks)]
        for key in fresh:
            ranks[key] = rank
    return ranks


def table_of(machine, found):
    """Return the table with what the dict has for the keys, and None for the others."""
    return [[found.get((state, side)) for side in (0, 1)] for state in range(len(machine[0]))]


def is_table(machine, table):
    """Tell whether the list has a list of two elements for each state."""
    return len(table) == len(machine[0]) and all(len(row) == 2 for row in table)


def at_key(table, key):
    """Return what the table has for the key."""
    return table[key[0]][key[1]]


def is_paper(machine, table, is_right):
    """Tell whether the table has None and numbers of at least 0, one at (0, 0), and is right at each key with one.

    What is right at a key is told by is_right(key, number, behind), where behind has what the table
    has for the keys to which the letters lead.
    """
    if not is_table(machine, table) or table[0][0] is None:
        return False
    for key in keys_of(machine):
        number = at_key(table, key)
        if number is not None:
            behind = [at_key(table, reached) for reached in keys_behind(machine, key)]
            if number < 0 or not is_right(key, number, behind):
                return False
    return True
