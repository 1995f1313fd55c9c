"""The names of a hall with their rules and machines, in order, and what deeds make of them.

They are kept in a dict that is never changed: each deed makes a new one.
"""

from hallofwords.deciding import parting_word
from hallofwords.errors import BadName, BadSize, InUse, Ring, TooDeep, UnknownName
from hallofwords.making import machine_with
from hallofwords.rules import LISTED, MOST_DEPTH, MOST_PARTS, check_rule, copied, is_name, walk

MOST_NAMES = 24


class Entry:
    """What a hall keeps under a name; nothing of it is ever changed."""

    def __init__(self, rule, machine):
        self.held_rule = rule
        self.held_machine = machine
        self.used = {part[1]: True for part, _ in walk(rule) if part[0] == "name"}


def check_known(entries, name):
    """Raise UnknownName if the name is not there."""
    if name not in entries:
        raise UnknownName(name)


def with_rule(letters, entries, name, rule):
    """Return the entries with the rule under the name, or raise the error that is due."""
    if not is_name(name):
        raise BadName()
    check_rule(letters, rule, names=tuple(entries) + (name,))
    fresh = Entry(copied(rule), None)
    if name in all_used(entries, fresh):
        raise Ring(name)
    if name not in entries and len(entries) == MOST_NAMES:
        raise BadSize(len(entries) + 1)
    kept = {other: entry for other, entry in entries.items()}
    kept[name] = fresh
    return with_machines(letters, kept, name)


def all_used(entries, entry):
    """Return a dict of the names that the entry uses, at once or by what they use."""
    found = {}
    waiting = list(entry.used)
    while waiting:
        name = waiting.pop()
        if name not in found:
            found[name] = True
            if name in entries:
                waiting.extend(list(entries[name].used))
    return found


def with_machines(letters, entries, name):
    """Return the entries with the machines of the name and of those that use it made anew, or raise an error."""
    left = [other for other, entry in entries.items() if other == name or name in all_used(entries, entry)]
    machines = {other: entry.held_machine for other, entry in entries.items()}
    while left:
        free = [other for other in left if not any([used in left for used in entries[other].used])]
        machines[free[0]] = machine_with(letters, entries[free[0]].held_rule, machines)
        left.remove(free[0])
    return {other: Entry(entry.held_rule, machines[other]) for other, entry in entries.items()}


def users_of(entries, name):
    """Return the names in whose rules the name stands, in order."""
    return [other for other, entry in entries.items() if name in entry.used]


def without_name(entries, name):
    """Return the entries without the name, or raise UnknownName or InUse."""
    check_known(entries, name)
    users = users_of(entries, name)
    if users:
        raise InUse(users[0])
    return {other: entry for other, entry in entries.items() if other != name}


def with_other_name(entries, name, other):
    """Return the entries with another name in the place of the name, or raise the error that is due."""
    check_known(entries, name)
    if not is_name(other):
        raise BadName()
    if other != name and other in entries:
        raise InUse(other)
    found = {}
    for kept, entry in entries.items():
        rule = replaced_in(entry.held_rule, {name: ("name", other)})
        found[other if kept == name else kept] = Entry(rule, entry.held_machine)
    return found


def replaced_in(rule, rules):
    """Return the rule, new through and through, with rules in the place of those names for which a dict has one."""
    kind = rule[0]
    if kind == "name" and rule[1] in rules:
        return copied(rules[rule[1]])
    if kind in LISTED:
        return (kind, [replaced_in(inner, rules) for inner in rule[1]])
    if kind in ("not", "times"):
        return (kind, replaced_in(rule[1], rules)) + rule[2:]
    return rule


def changes_between(letters, before, behind):
    """Return the tuples of what is changed between two lots of entries."""
    found = []
    for name, entry in behind.items():
        if name not in before:
            found.append((name, "new", None))
        else:
            word = parting_word(letters, before[name].held_machine, entry.held_machine)
            if word is not None:
                found.append((name, "other", word))
    return found + [(name, "gone", None) for name in before if name not in behind]


def written_rule(entries, name):
    """Return the rule of the name written out, or raise BadSize or TooDeep."""
    sizes = {}
    depths = {}
    order = names_upto(entries, name)
    for other in order:
        rule = entries[other].held_rule
        sizes[other] = size_with(rule, sizes)
        depths[other] = depth_with(rule, depths)
    if sizes[name] > MOST_PARTS:
        raise BadSize(sizes[name])
    if depths[name] > MOST_DEPTH:
        raise TooDeep()
    # The whole has few parts, and so has all that it is made of.
    written = {}
    for other in order:
        written[other] = replaced_in(entries[other].held_rule, written)
    return written[name]


def names_upto(entries, name):
    """Return the name and all that it uses, each behind those that it uses itself."""
    left = [name] + [other for other in all_used(entries, entries[name])]
    order = []
    while left:
        free = [other for other in left if not any([used in left for used in entries[other].used])]
        order.extend(free)
        left = [other for other in left if other not in free]
    return order


def size_with(rule, sizes):
    """Return the number of parts of the rule with those of the names that a dict has in their place."""
    return sum([sizes[part[1]] if part[0] == "name" else 1 for part, _ in walk(rule)])


def depth_with(rule, depths):
    """Return the greatest depth of a part of the rule with those of the names in their place."""
    return max([depth + (depths[part[1]] if part[0] == "name" else 0) for part, depth in walk(rule)])
