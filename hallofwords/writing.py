"""The texts of rules and of machines."""

from hallofwords.rules import LISTED, walk


def head_words(part):
    """Return the words of a part that stand ahead of the rules in it."""
    kind = part[0]
    if kind in LISTED:
        return [kind, str(len(part[1]))]
    if kind == "times":
        return [kind, str(part[2]), "-" if part[3] is None else str(part[3])]
    if kind in ("one", "name"):
        return [kind, part[1]]
    return [kind]


def write_rule(rule):
    """Return the text of the rule."""
    words = []
    for part, _ in walk(rule):
        words.extend(head_words(part))
    return " ".join(words) + "\n"


def write_machine(machine):
    """Return the text of the machine."""
    table, ends = machine
    lines = []
    for row, end in zip(table, ends):
        words = [str(state) for state in row]
        words.append("end" if end else "on")
        lines.append(" ".join(words) + "\n")
    return "".join(lines)
