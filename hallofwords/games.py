"""Games in which two sides write a word by turns, and one of them wants that ends are come to."""

from hallofwords.keys import can_lead, has_way, is_paper, keys_behind, keys_of, keys_with_ends, ranks_to, table_of
from hallofwords.machines import run_from


def bring(letters, machine, *, who=0):
    """Return the table of the ranks."""
    return table_of(machine, ranks_to(machine, who, keys_with_ends(machine)))


def is_rank_paper(letters, machine, ranks, *, who=0):
    """Tell whether the table is a rank paper."""

    def is_right(key, number, behind):
        if machine[1][key[0]]:
            return True
        return has_way(key[1] == who, [told is not None and told < number for told in behind])

    return is_paper(machine, ranks, is_right)


def keep_paper(letters, machine, *, who=0):
    """Return the keys without a rank, ascending, if (0, 0) is one of them, otherwise None."""
    ranks = ranks_to(machine, who, keys_with_ends(machine))
    if (0, 0) in ranks:
        return None
    return [key for key in keys_of(machine) if key not in ranks]


def is_keep_paper(letters, machine, keys, *, who=0):
    """Tell whether the list of keys is a keep paper."""
    known = {key: True for key in keys_of(machine)}
    kept = {key: True for key in keys}
    if (0, 0) not in kept or not all(keys[k] < keys[k + 1] for k in range(len(keys) - 1)):
        return False
    if not all(key in known and not machine[1][key[0]] for key in keys):
        return False
    return all(can_lead(machine, 1 - who, key, kept) for key in keys)


def least_choice(letters, machine, table, *, side):
    """Return for each state the first letter that leads the side to a key with the least number."""
    return [letters[numbers.index(min(numbers))] for numbers in numbers_behind(machine, table, side)]


def greatest_choice(letters, machine, table, *, side):
    """Return for each state the first letter that leads the side to a key with the greatest number."""
    return [letters[numbers.index(max(numbers))] for numbers in numbers_behind(machine, table, side)]


def numbers_behind(machine, table, side):
    """Return for each state what the table has behind its key with the side; None comes behind all numbers."""
    found = []
    for state in range(len(machine[0])):
        told = [table[reached][other] for reached, other in keys_behind(machine, (state, side))]
        found.append([(number is None, number or 0) for number in told])
    return found


def play(letters, machine, first, second, length):
    """Return the word of so many signs that the two sides write by their choices."""
    state = 0
    signs = []
    for place in range(length):
        choice = second if place & 1 else first
        signs.append(choice[state])
        state = run_from(letters, machine, state, choice[state])
    return "".join(signs)
