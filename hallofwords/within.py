"""Between which states of a machine the names of a sheet lead, and whether the machine takes its words."""

from hallofwords.bits import bits_of, mask_of
from hallofwords.sheets import first_word_to


def leading_masks(letters, sheet, machine):
    """Return for each name the list with the mask, for each state, of the states to which the name leads from it."""
    masks = {name: [0] * len(machine[0]) for name, _ in sheet}
    changed = True
    while changed:
        changed = False
        for name, body in sheet:
            made = masks_made(letters, machine, masks, body)
            if made != masks[name]:
                masks[name] = made
                changed = True
    return [masks[name] for name, _ in sheet]


def masks_made(letters, machine, masks, rule):
    """Return the masks of the states for the pairs that the rule makes; those of the names are told by a dict."""
    kind = rule[0]
    if kind == "empty":
        return [1 << state for state in range(len(machine[0]))]
    if kind == "one":
        return [mask_of([row[letters.index(sign)] for sign in rule[1]]) for row in machine[0]]
    if kind == "name":
        return list(masks[rule[1]])
    inner = [masks_made(letters, machine, masks, part) for part in rule[1]]
    found = inner[0]
    for more in inner[1:]:
        if kind == "row":
            found = [in_one(more, mask) for mask in found]
        else:
            found = [one | other for one, other in zip(found, more)]
    return found


def in_one(masks, states):
    """Return the mask of all states that stand in the masks of these states."""
    found = 0
    for state in bits_of(states):
        found = found | masks[state]
    return found


def pairs_of(masks):
    """Return the pairs that the masks tell, ascending."""
    return [(p, q) for p, mask in enumerate(masks) for q in bits_of(mask)]


def leading_pairs(letters, sheet, machine):
    """Return for each name the list of the pairs of states between which it leads, ascending."""
    return [pairs_of(masks) for masks in leading_masks(letters, sheet, machine)]


def are_ends(machine, mask):
    """Tell whether all states of the mask are ends."""
    return all(machine[1][state] for state in bits_of(mask))


def is_sheet_within(letters, sheet, machine):
    """Tell whether the machine takes each word that belongs to the sheet."""
    return are_ends(machine, leading_masks(letters, sheet, machine)[0][0])


def sheet_paper(letters, sheet, machine):
    """Return the leading pairs if the sheet is within the machine, otherwise None."""
    if not is_sheet_within(letters, sheet, machine):
        return None
    return leading_pairs(letters, sheet, machine)


def is_sheet_paper(letters, sheet, machine, paper):
    """Tell whether the list is a sheet paper."""
    many = len(machine[0])
    if len(paper) != len(sheet) or not all(is_list_of_pairs(pairs, many) for pairs in paper):
        return False
    masks = {}
    for (name, _), pairs in zip(sheet, paper):
        masks[name] = [mask_of([q for p, q in pairs if p == state]) for state in range(many)]
    for name, body in sheet:
        made = masks_made(letters, machine, masks, body)
        if [one | other for one, other in zip(made, masks[name])] != masks[name]:
            return False
    return are_ends(machine, masks[sheet[0][0]][0])


def is_list_of_pairs(pairs, many):
    """Tell whether the pairs are ascending, each once, and of states of a machine with so many states."""
    if not all(pairs[k] < pairs[k + 1] for k in range(len(pairs) - 1)):
        return False
    return all(0 <= p < many and 0 <= q < many for p, q in pairs)


def outside_word(letters, sheet, machine):
    """Return the first word of the sheet that the machine does not take, or None, or raise BadSize."""
    return first_word_to(letters, sheet, machine, [state for state, end in enumerate(machine[1]) if not end])


def shared_word(letters, sheet, machine):
    """Return the first word of the sheet that the machine takes, or None, or raise BadSize."""
    return first_word_to(letters, sheet, machine, [state for state, end in enumerate(machine[1]) if end])
