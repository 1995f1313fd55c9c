"""Games against a source: one side writes, and the signs of the other side are drawn."""

from hallofwords.drawing import can_come, chances_to
from hallofwords.errors import BadSize
from hallofwords.keys import at_key, is_table, keys_behind, keys_of
from hallofwords.ratios import in_wholes, is_at_most, product_of, sum_of

MOST_PLAYED = 12
NOTHING = (0, 1)
ALL = (1, 1)


def check_played(machine):
    """Raise BadSize with the number of states of the machine if it has too many."""
    if len(machine[0]) > MOST_PLAYED:
        raise BadSize(len(machine[0]))


def number_of(key):
    """Return the number of the key among all keys."""
    return 2 * key[0] + key[1]


def goals_of(machine):
    """Tell for each key, in the order of their numbers, whether it has an end."""
    return [machine[1][state] for state, _ in keys_of(machine)]


def steps_by(letters, source, machine, choice, who):
    """Return the steps from key to key if the side writes by the choice, and the number that stands for 1."""
    weights, whole = in_wholes(source)
    steps = []
    for key in keys_of(machine):
        behind = [number_of(reached) for reached in keys_behind(machine, key)]
        if key[1] == who:
            steps.append([(whole, behind[letters.index(choice[key[0]])])])
        else:
            steps.append([(weight, reached) for weight, reached in zip(weights, behind) if weight > 0])
    return steps, whole


def chances_by(letters, source, machine, choice, who):
    """Return the table of the chances that the side reaches by the choice."""
    steps, whole = steps_by(letters, source, machine, choice, who)
    chances = chances_to(steps, whole, goals_of(machine))
    return [chances[at:at + 2] for at in range(0, len(chances), 2)]


def behind_own(machine, state, who, table):
    """Return what the table has for the keys to which the letters lead from the side's own key of the state."""
    return [at_key(table, reached) for reached in keys_behind(machine, (state, who))]


def bettered(letters, machine, choice, who, chances):
    """Return the choice with a better letter at each state where one leads to a greater chance."""
    found = []
    for state, sign in enumerate(choice):
        behind = behind_own(machine, state, who, chances)
        for other, chance in zip(letters, behind):
            if not machine[1][state] and not is_at_most(chance, behind[letters.index(sign)]):
                sign = other
        found.append(sign)
    return found


def best_table(letters, source, machine, who):
    """Return the table of the best chances.

    A choice by which no letter leads to a greater chance than its own one reaches the best chances;
    and each choice that is bettered reaches more somewhere, and nowhere less.
    """
    choice = [letters[0] for _ in machine[0]]
    better = choice
    chances = []
    while not chances or better != choice:
        choice = better
        chances = chances_by(letters, source, machine, choice, who)
        better = bettered(letters, machine, choice, who, chances)
    return chances


def best_chances(letters, source, machine, *, who=0):
    """Return the table of the best chances, or raise BadSize."""
    check_played(machine)
    return best_table(letters, source, machine, who)


def best_choice(letters, source, machine, *, who=0):
    """Return the best choice, or raise BadSize."""
    check_played(machine)
    chances = best_table(letters, source, machine, who)
    lengths = lengths_of(source, machine, who, chances)
    choice = []
    for state, end in enumerate(machine[1]):
        if end or chances[state][who] == NOTHING:
            choice.append(letters[0])
        else:
            fitting = best_behind(machine, (state, who), chances)
            told = [lengths[reached] if fits else len(lengths) for reached, fits in fitting]
            choice.append(letters[told.index(min(told))])
    return choice


def best_behind(machine, key, chances):
    """Return the keys to which the letters lead, each with whether its best chance is that of the key."""
    return [(reached, at_key(chances, reached) == at_key(chances, key)) for reached in keys_behind(machine, key)]


def lengths_of(source, machine, who, chances):
    """Return a dict with the lengths of the keys whose best chance is greater than 0."""
    leading = {}
    for key in keys_of(machine):
        if key[1] == who:
            leading[key] = [reached for reached, fits in best_behind(machine, key, chances) if fits]
        else:
            leading[key] = [
                reached for chance, reached in zip(source, keys_behind(machine, key)) if chance != NOTHING
            ]
    lengths = {key: 0 for key in leading if machine[1][key[0]]}
    fresh = list(lengths)
    length = 0
    while fresh:
        length += 1
        fresh = [
            key for key, behind in leading.items()
            if at_key(chances, key) != NOTHING
            and key not in lengths
            and any([reached in lengths for reached in behind])
        ]
        for key in fresh:
            lengths[key] = length
    return lengths


def choice_chances(letters, source, machine, choice, *, who=0):
    """Return the table of the chances of the choice, or raise BadSize."""
    check_played(machine)
    return chances_by(letters, source, machine, choice, who)


def drawn_behind(source, machine, key, numbers):
    """Return the sum of the numbers of the keys to which the letters lead, each by its chance."""
    return sum_of([
        product_of(chance, at_key(numbers, reached))
        for chance, reached in zip(source, keys_behind(machine, key))
        if chance != NOTHING
    ])


def is_high_odds(letters, source, machine, numbers, *, who=0):
    """Tell whether the table is high odds."""
    if not is_table(machine, numbers):
        return False
    for key in keys_of(machine):
        if machine[1][key[0]]:
            least = [ALL]
        elif key[1] == who:
            least = behind_own(machine, key[0], who, numbers)
        else:
            least = [drawn_behind(source, machine, key, numbers)]
        if not all(is_at_most(number, at_key(numbers, key)) for number in [NOTHING] + least):
            return False
    return True


def is_low_odds(letters, source, machine, choice, numbers, *, who=0):
    """Tell whether the choice has a letter for each state and the table is low odds for it."""
    if len(choice) != len(machine[0]) or not is_table(machine, numbers):
        return False
    steps, _ = steps_by(letters, source, machine, choice, who)
    coming = can_come(steps, goals_of(machine))
    for key in keys_of(machine):
        if machine[1][key[0]]:
            most = ALL
        elif not coming[number_of(key)]:
            most = NOTHING
        elif key[1] == who:
            most = behind_own(machine, key[0], who, numbers)[letters.index(choice[key[0]])]
        else:
            most = drawn_behind(source, machine, key, numbers)
        if not is_at_most(at_key(numbers, key), most):
            return False
    return True
