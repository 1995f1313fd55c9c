"""Games in which one side wants that ends are come to again and again, or so many times."""

from hallofwords.keys import (
    at_key,
    can_lead,
    has_way,
    is_paper,
    is_table,
    keys_behind,
    keys_of,
    keys_with_ends,
    ranks_to,
    table_of,
)


def counts_of(machine, who):
    """Return a dict with the count of each key, None where every number can be brought."""
    found = {}
    # Those keys from which so many keys with ends can be brought as the number says.
    bringing = {key: True for key in keys_of(machine)}
    number = 0
    while bringing:
        goals = [key for key in keys_with_ends(machine) if can_lead(machine, who, key, bringing)]
        ranks = ranks_to(machine, who, goals)
        if len(ranks) == len(bringing):
            return found
        for key in bringing:
            if key not in ranks:
                found[key] = number
        bringing = ranks
        number += 1
    return found


def counts(letters, machine, *, who=0):
    """Return the table of the counts."""
    return table_of(machine, counts_of(machine, who))


def is_count_paper(letters, machine, numbers, *, who=0):
    """Tell whether the table is a count paper."""

    def is_right(key, number, behind):
        most = number - 1 if machine[1][key[0]] else number
        return has_way(key[1] != who, [told is not None and told <= most for told in behind])

    return is_paper(machine, numbers, is_right)


def again(letters, machine, *, who=0):
    """Return the table of the again ranks."""
    found = counts_of(machine, who)
    goals = [key for key in keys_with_ends(machine) if key not in found]
    return table_of(machine, ranks_to(machine, who, goals))


def is_again_paper(letters, machine, ranks, *, who=0):
    """Tell whether the table is an again paper."""

    def is_right(key, number, behind):
        has_end = machine[1][key[0]]
        return has_way(key[1] == who, [told is not None and (has_end or told < number) for told in behind])

    return is_paper(machine, ranks, is_right)


def promise(letters, machine, many, *, who=0):
    """Return the table of the told promise of so many ends, or None if there is no promise."""
    found = counts_of(machine, who)
    if found.get((0, 0), many) < many:
        return None
    promised = {key: min(found.get(key, many), many) for key in keys_of(machine)}
    table = {key: (0, 0) for key in promised}
    for number in sorted({told for told in promised.values() if told > 0}):
        goals = [key for key in keys_with_ends(machine) if key not in found or found[key] >= number]
        ranks = ranks_to(machine, who, goals)
        for key, told in promised.items():
            if told == number:
                table[key] = (number, ranks[key])
    return table_of(machine, table)


def is_promise(letters, machine, many, table, *, who=0):
    """Tell whether the table is a promise of so many ends."""
    if not is_table(machine, table) or table[0][0][0] < many:
        return False
    for key in keys_of(machine):
        number, rank = at_key(table, key)
        if number < 0 or rank < 0:
            return False
        behind = [at_key(table, reached) for reached in keys_behind(machine, key)]
        if machine[1][key[0]]:
            held = [told >= number - 1 for told, _ in behind]
        else:
            held = [told > number or (told == number and other < rank) for told, other in behind]
        if number > 0 and not has_way(key[1] == who, held):
            return False
    return True
