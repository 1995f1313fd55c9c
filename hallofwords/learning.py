"""Machines that fit told words, and what shows that there is none with so many states."""

from hallofwords.errors import BadSize
from hallofwords.filling import clash_of, entry_of, run_through, runners_of, runners_on, with_entry
from hallofwords.letters import in_order
from hallofwords.machines import is_taken

MOST_ENTRIES = 9


def check_entries(letters, most):
    """Raise BadSize with the number of entries of a table with so many states if there are too many."""
    if len(letters) * most > MOST_ENTRIES:
        raise BadSize(len(letters) * most)


def fits(letters, machine, yes, no):
    """Tell whether the machine takes all words of yes and no word of no."""
    if not all(is_taken(letters, machine, word) for word in yes):
        return False
    return not any([is_taken(letters, machine, word) for word in no])


def least_fit(letters, yes, no, most):
    """Return the least fit, or None if no machine with so many states fits, or raise BadSize."""
    check_entries(letters, most)
    runners = runners_of(letters, yes, no)
    for many in range(1, most + 1):
        entries = first_fill(letters, many, [None] * (many * len(letters)), 0, runners)
        if entries is not None:
            return machine_filled(letters, many, entries, runners)
    return None


def first_fill(letters, many, entries, place, runners):
    """Return the first entries without a clash that have these ahead of the place, or None.

    A state is not met before all lesser ones are: of several tables that differ in the numbers of
    their states alone, the first one is such, and with the fewest states each state is met.
    """
    runners = runners_on(letters, entries, runners)
    if clash_of(runners) is not None:
        return None
    if place == len(entries):
        return entries
    known = max([0] + entries[:place]) + 1
    for target in range(min(known + 1, many)):
        found = first_fill(letters, many, with_entry(entries, place, target), place + 1, runners)
        if found is not None:
            return found
    return None


def machine_filled(letters, many, entries, runners):
    """Return the machine with these entries whose ends are the states to which words to be taken lead."""
    ends = [False] * many
    for state, _, _, taken in runners_on(letters, entries, runners):
        if taken:
            ends[state] = True
    return [entries[begin:begin + len(letters)] for begin in range(0, len(entries), len(letters))], ends


def clash_tree(letters, yes, no, most):
    """Return the told clash tree, or None if a machine with so many states fits, or raise BadSize."""
    check_entries(letters, most)
    return tree_from(letters, most, [None] * (most * len(letters)), 1, runners_of(letters, yes, no))


def tree_from(letters, most, entries, known, runners):
    """Return the told clash tree in the partial table with so many known states, or None if there is none."""
    runners = runners_on(letters, entries, runners)
    clash = clash_of(runners)
    if clash is not None:
        return ("clash",) + clash
    waiting = [(state, rest[0]) for state, rest, _, _ in runners if rest != ""]
    if not waiting:
        return None
    state, sign = waiting[0]
    trees = []
    for target in range(min(known + 1, most)):
        filled = with_entry(entries, entry_of(letters, state, sign), target)
        tree = tree_from(letters, most, filled, max(known, target + 1), runners)
        if tree is None:
            return None
        trees.append(tree)
    return ("split", state, sign, trees)


def is_clash_tree(letters, yes, no, most, tree):
    """Tell whether the tuple is a clash tree."""
    takers = {word: True for word in yes}
    others = {word: True for word in no}
    return is_tree_from(letters, takers, others, [None] * (most * len(letters)), 1, tree)


def is_tree_from(letters, takers, others, entries, known, tree):
    """Tell whether the tuple is a clash tree in the partial table with so many known states."""
    if tree[0] == "clash":
        _, one, other = tree
        return one in takers and other in others and do_clash(letters, entries, one, other)
    _, state, sign, trees = tree
    if not 0 <= state < known or sign not in list(letters):
        return False
    place = entry_of(letters, state, sign)
    targets = min(known + 1, len(entries) // len(letters))
    if entries[place] is not None or len(trees) != targets:
        return False
    for target, inner in enumerate(trees):
        filled = with_entry(entries, place, target)
        if not is_tree_from(letters, takers, others, filled, max(known, target + 1), inner):
            return False
    return True


def do_clash(letters, entries, one, other):
    """Tell whether both words lead to the same state of the partial table."""
    state, rest = run_through(letters, entries, 0, one)
    return rest == "" and run_through(letters, entries, 0, other) == (state, "")


def ends_behind(words):
    """Return for each word with which words of the list begin a dict of what stands behind it in them."""
    found = {}
    for word in words:
        for length in range(len(word) + 1):
            found.setdefault(word[:length], {})[word[length:]] = True
    return found


def are_apart(takers, others, one, other):
    """Tell whether the two words are told apart; what stands behind words of yes and of no is told by dicts."""
    return share_some(takers.get(one, {}), others.get(other, {})) or share_some(
        takers.get(other, {}), others.get(one, {})
    )


def share_some(one, other):
    """Tell whether the two dicts share a key."""
    return any([key in other for key in one])


def unlike_words(letters, yes, no):
    """Return the unlike words."""
    takers = ends_behind(yes)
    others = ends_behind(no)
    found = []
    for word in in_order(letters, [""] + list(takers) + list(others)):
        if all(are_apart(takers, others, word, ahead) for ahead in found):
            found.append(word)
    return found


def are_unlike(letters, yes, no, words):
    """Tell whether each two words at different places of the list are told apart."""
    takers = ends_behind(yes)
    others = ends_behind(no)
    for place, word in enumerate(words):
        if not all(are_apart(takers, others, word, ahead) for ahead in words[:place]):
            return False
    return True
