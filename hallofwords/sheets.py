"""Sheets of names: their check, their shortest words, and sheets that are machines."""

from hallofwords.errors import BadName, BadRule, BadSheet, BadSize, InUse, TooDeep
from hallofwords.folds import made
from hallofwords.machines import least
from hallofwords.nodes import nodes_of, used_nodes
from hallofwords.rules import MOST_DEPTH, MOST_LISTED, MOST_PARTS, check_part, is_name, size_of, walk
from hallofwords.shortest import first_to, first_words
from hallofwords.spreading import Spreading
from hallofwords.staying import useful_states
from hallofwords.turners import every_word

MOST_NAMES = 12
MOST_TOLD = 200
BARRED = ("none", "both", "not", "times")


def check_sheet(letters, sheet):
    """Raise the error that is due first, or none."""
    if not 1 <= len(sheet) <= MOST_NAMES:
        raise BadSize(len(sheet))
    names = names_of(sheet)
    size = 0
    for _, body in sheet:
        for part, depth in walk(body):
            if depth > MOST_DEPTH:
                raise TooDeep()
            if part[0] in BARRED:
                raise BadRule()
            check_part(letters, part, names)
            size += 1
    if size > MOST_PARTS:
        raise BadSize(size)


def names_of(sheet):
    """Return the tuple of the names, or raise BadName or InUse."""
    names = ()
    for name, _ in sheet:
        if not is_name(name):
            raise BadName()
        if name in names:
            raise InUse(name)
        names = names + (name,)
    return names


def has_word(letters, sheet):
    """Tell whether some word belongs to the sheet."""
    return least_length(letters, sheet) is not None


def least_length(letters, sheet):
    """Return the least length of the head, or None."""
    return least_lengths(letters, sheet)[0]


def least_lengths(letters, sheet):
    """Return the least lengths of the names, None for a name without words."""
    words = first_words(letters, nodes_of(sheet), every_word(letters))
    lengths = [words.get((number, 0, 0)) for number in range(len(sheet))]
    return [None if told is None else told[0] for told in lengths]


def first_word_of(letters, sheet):
    """Return the first word that belongs to the sheet, or None, or raise BadSize."""
    return first_word_to(letters, sheet, every_word(letters), [0])


def first_word_to(letters, sheet, machine, states):
    """Return the first word of the sheet that leads to one of the states, or None, or raise BadSize."""
    told = first_to(letters, first_words(letters, nodes_of(sheet), machine), states)
    if told is None:
        return None
    length, word = told
    if length > MOST_TOLD:
        raise BadSize(length)
    return word


def used_names(letters, sheet):
    """Return the used names, in the order of the sheet."""
    used = used_nodes(nodes_of(sheet))
    return [name for number, (name, _) in enumerate(sheet) if number in used]


def is_one_sided(letters, sheet):
    """Tell whether each name in a row stands in its last rule."""
    for _, body in sheet:
        for part, _ in walk(body):
            if part[0] == "row" and any([has_name(rule) for rule in part[1][:-1]]):
                return False
    return True


def has_name(rule):
    """Tell whether some part of the rule is a name."""
    return any([part[0] == "name" for part, _ in walk(rule)])


def machine_of_sheet(letters, sheet):
    """Return the machine of a one-sided sheet, or raise BadSheet, TooMany or TooGreat."""
    if not is_one_sided(letters, sheet):
        raise BadSheet()
    spreading = Spreading(sheet)

    def step(mask, at):
        return spreading.set_behind(mask, letters[at])

    return made(letters, spreading.first_set(sheet[0][0]), step, lambda mask: mask & 1 == 1)


def sheet_of(letters, machine):
    """Return the sheet of the machine, or raise BadSize."""
    table, ends = least(letters, machine)
    useful = useful_states(letters, (table, ends))
    many = len([state for state in range(len(table)) if useful[state]])
    if many > MOST_NAMES:
        raise BadSize(many)
    if many == 0:
        return [("s0", ("name", "s0"))]
    sheet = []
    for state, row in enumerate(table):
        if useful[state]:
            sheet.append((name_of(state), body_of(letters, row, useful, ends[state])))
    size = sum([size_of(body) for _, body in sheet])
    if size > MOST_PARTS:
        raise BadSize(size)
    return sheet


def name_of(state):
    """Return the name of the state in the sheet of a machine."""
    return f"s{state}"


def body_of(letters, row, useful, end):
    """Return the body of a state with this row, which is an end or not, in the sheet of a machine."""
    signs = {}
    for sign, reached in zip(letters, row):
        if useful[reached]:
            signs[reached] = signs.get(reached, "") + sign
    rules = [("row", [("one", told), ("name", name_of(reached))]) for reached, told in signs.items()]
    if end:
        rules.append(("empty",))
    if len(rules) > MOST_LISTED:
        rules = rules[:MOST_LISTED - 1] + [("either", rules[MOST_LISTED - 1:])]
    return rules[0] if len(rules) == 1 else ("either", rules)
