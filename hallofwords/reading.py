"""Reading the texts of rules and of machines."""

from hallofwords.errors import BadText
from hallofwords.machines import MOST_STATES, check_machine
from hallofwords.rules import LISTED, check_rule, is_name, is_signs

# What has to follow each first word of a rule.
FOLLOWING = {
    "none": (),
    "empty": (),
    "one": ("signs",),
    "row": ("many",),
    "either": ("many",),
    "both": ("many",),
    "not": ("rule",),
    "times": ("low", "high", "rule"),
    "name": ("name",),
}
MANY = ("1", "2", "3", "4", "5", "6")
DIGITS = ("0", "1", "2", "3", "4", "5", "6", "7", "8")


def with_columns(line):
    """Return the words of the line, parted by single blanks, each with the column of its beginning."""
    found = []
    column = 1
    for word in line.split(" "):
        found.append((word, column))
        column += len(word) + 1
    return found


def read_rule(letters, text, *, names=()):
    """Return the rule of the text, or raise BadText, and then what the check of a rule raises."""
    line, newline, behind = text.partition("\n")
    heads = read_heads(letters, line)
    if not newline:
        raise BadText(1, len(line) + 1)
    if behind:
        raise BadText(2, 1)
    rule = put_together(heads)
    check_rule(letters, rule, names=names)
    return rule


def read_heads(letters, line):
    """Return a list for each part, in order: its first word and what follows but for rules."""
    heads = []
    due = ["rule"]
    for word, column in with_columns(line):
        if not due:
            raise BadText(1, column)
        kind = due.pop()
        if not is_right(letters, kind, word, heads):
            raise BadText(1, column)
        if kind == "rule":
            heads.append([word])
            due.extend(FOLLOWING[word][::-1])
        else:
            heads[-1].append(word)
        if kind == "many":
            due.extend(["rule"] * int(word))
    if due:
        raise BadText(1, len(line) + 1)
    return heads


def is_right(letters, kind, word, heads):
    """Tell whether the word is of the kind that is due behind these heads."""
    if kind == "rule":
        return word in FOLLOWING
    if kind == "signs":
        return is_signs(letters, word)
    if kind == "many":
        return word in MANY
    if kind == "low":
        return word in DIGITS
    if kind == "high":
        return word == "-" or word in DIGITS and int(word) >= int(heads[-1][1])
    return is_name(word)


def put_together(heads):
    """Return the rule with these heads; from the last one on, so that no depth is too great."""
    made = []
    for head in reversed(heads):
        kind = head[0]
        if kind in LISTED:
            made.append((kind, [made.pop() for _ in range(int(head[1]))]))
        elif kind == "not":
            made.append((kind, made.pop()))
        elif kind == "times":
            made.append((kind, made.pop(), int(head[1]), None if head[2] == "-" else int(head[2])))
        else:
            made.append(tuple(head))
    return made[0]


def read_machine(letters, text):
    """Return the machine of the text, or raise BadText, and then BadMachine."""
    lines = text.split("\n")
    unended = lines.pop()
    states = [read_state(letters, line, number) for number, line in enumerate(lines, start=1)]
    if unended or not lines:
        read_state(letters, unended, len(lines) + 1)
        raise BadText(len(lines) + 1, len(unended) + 1)
    machine = ([row for row, _ in states], [end for _, end in states])
    check_machine(letters, machine)
    return machine


def read_state(letters, line, number):
    """Return the row that the line tells, and whether its state is an end, or raise BadText."""
    words = with_columns(line)
    for at, (word, column) in enumerate(words):
        if not is_right_in_state(len(letters) - at, word):
            raise BadText(number, column)
    if len(words) <= len(letters):
        raise BadText(number, len(line) + 1)
    row = [int(word) for word, _ in words[:-1]]
    return row, words[-1][0] == "end"


def is_right_in_state(lacking, word):
    """Tell whether the word is right in the line of a state in which so many numbers lack."""
    if lacking > 0:
        return word in [str(state) for state in range(MOST_STATES)]
    return lacking == 0 and word in ("end", "on")
