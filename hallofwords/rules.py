"""Rules, their parts, and the check of a rule."""

from hallofwords.errors import BadLetters, BadName, BadNumber, BadRule, BadSize, TooDeep, UnknownName
from hallofwords.letters import ALPHABET, ordered_signs

# How many elements a rule of each form has.
LENGTHS = {"none": 1, "empty": 1, "one": 2, "row": 2, "either": 2, "both": 2, "not": 2, "times": 4, "name": 2}
LISTED = ("row", "either", "both")
MOST_PARTS = 60
MOST_DEPTH = 8
MOST_LISTED = 6
MOST_TIMES = 8
MOST_NAME = 12


def rules_in(rule):
    """Return the list of the rules that stand directly in a rule."""
    if rule[0] in LISTED:
        return list(rule[1])
    if rule[0] in ("not", "times"):
        return [rule[1]]
    return []


def walk(rule):
    """Give each part with its depth, in the order of point 3.

    What stands in a part is looked at only behind it, so that who goes through the parts can
    stop at a wrong one.
    """
    waiting = [(rule, 0)]
    while waiting:
        part, depth = waiting.pop()
        yield part, depth
        inner = rules_in(part)
        waiting.extend([(deeper, depth + 1) for deeper in inner[::-1]])


def check_rule(letters, rule, *, names=()):
    """Raise the first error that is due, part by part, and then BadSize for too many parts."""
    size = 0
    for part, depth in walk(rule):
        if depth > MOST_DEPTH:
            raise TooDeep()
        check_part(letters, part, names)
        size += 1
    if size > MOST_PARTS:
        raise BadSize(size)


def check_part(letters, part, names):
    """Raise the error that is due for the part itself, whatever stands in it."""
    kind = part[0]
    if kind not in LENGTHS or len(part) != LENGTHS[kind]:
        raise BadRule()
    if kind == "one" and not is_signs(letters, part[1]):
        raise BadLetters()
    if kind in LISTED and not 1 <= len(part[1]) <= MOST_LISTED:
        raise BadSize(len(part[1]))
    if kind == "times":
        check_times(part[2], part[3])
    if kind == "name":
        check_name(part[1], names)


def check_times(low, high):
    """Raise BadNumber if the two numbers of times are not as they should be."""
    if not is_number(low) or not 0 <= low <= MOST_TIMES:
        raise BadNumber()
    if high is None:
        return
    if not is_number(high) or not low <= high <= MOST_TIMES:
        raise BadNumber()


def check_name(name, names):
    """Raise BadName if the name is none, and UnknownName if it is not allowed."""
    if not is_name(name):
        raise BadName()
    if name not in names:
        raise UnknownName(name)


def is_number(value):
    """Tell whether any value is a whole number; True and False are none."""
    return isinstance(value, int) and not isinstance(value, bool)


def is_signs(letters, signs):
    """Tell whether the string can stand in a part "one"."""
    return signs != "" and signs == ordered_signs(letters, signs)


def is_name(name):
    """Tell whether the string is a name."""
    if not 1 <= len(name) <= MOST_NAME or name[0] not in ALPHABET:
        return False
    return all(sign in ALPHABET or sign in "0123456789" for sign in name)


def copied(rule):
    """Return the rule with new lists throughout."""
    if rule[0] in LISTED:
        return (rule[0], [copied(inner) for inner in rule[1]])
    if rule[0] in ("not", "times"):
        return (rule[0], copied(rule[1])) + rule[2:]
    return rule


def parts_of(rule):
    """Return the list of the parts, in their order."""
    return [copied(part) for part, _ in walk(rule)]


def size_of(rule):
    """Return the number of parts."""
    return len(list(walk(rule)))


def depth_of(rule):
    """Return the greatest depth of a part."""
    return max([depth for _, depth in walk(rule)])


def signs_of(letters, rule):
    """Return the letters that stand in parts "one", in their order."""
    signs = [part[1] for part, _ in walk(rule) if part[0] == "one"]
    return ordered_signs(letters, "".join(signs))


def may_be_empty(rule):
    """Tell whether the word without signs belongs to a rule without names."""
    kind = rule[0]
    inner = [may_be_empty(part) for part in rules_in(rule)]
    if kind == "either":
        return any(inner)
    if kind in ("row", "both"):
        return all(inner)
    if kind == "not":
        return not inner[0]
    if kind == "times":
        return rule[2] == 0 or inner[0]
    return kind == "empty"
