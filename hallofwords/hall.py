"""Halls, which keep named rules that use one another."""

from hallofwords.errors import BadEntry, HallError, NothingToRedo, NothingToUndo
from hallofwords.letters import check_letters
from hallofwords.naming import (
    changes_between,
    check_known,
    users_of,
    with_other_name,
    with_rule,
    without_name,
    written_rule,
)
from hallofwords.rules import copied


def copied_deed(deed):
    """Return the deed, new through and through."""
    if deed[0] == "put":
        return (deed[0], deed[1], copied(deed[2]))
    return deed


class Hall:
    """Keeps rules and their machines under names."""

    def __init__(self, letters):
        check_letters(letters)
        self.letters = letters
        # The names with what is kept under them; what was kept ahead of each deed that is in force, and
        # behind each one that was taken back; the deeds. None of the dicts and lists is ever changed.
        self.entries = {}
        self.past = []
        self.ahead = []
        self.deeds = []

    def put(self, name, rule):
        """Keep the rule under the name and return what this changes, or raise the error that is due."""
        return self.do_all([("put", name, rule)])

    def remove(self, name):
        """Take the name out and return what this changes, or raise UnknownName or InUse."""
        return self.do_all([("remove", name)])

    def rename(self, name, other):
        """Give the name another name and return what this changes, or raise the error that is due."""
        return self.do_all([("rename", name, other)])

    def undo(self):
        """Take the last deed in force back and return what this changes, or raise NothingToUndo."""
        return self.do_all([("undo",)])

    def redo(self):
        """Put the deed in force that was taken back last and return what this changes, or raise NothingToRedo."""
        return self.do_all([("redo",)])

    def do_all(self, deeds):
        """Do the deeds and return what they change together; one that raises an error leaves all as it was."""
        kept = (self.entries, self.past, self.ahead, self.deeds)
        try:
            for deed in deeds:
                self.do(deed)
        except HallError:
            self.entries, self.past, self.ahead, self.deeds = kept
            raise
        return changes_between(self.letters, kept[0], self.entries)

    def what_if(self, deeds):
        """Return what the deeds would change together, or raise the error that they raise; all stays as it is."""
        kept = (self.entries, self.past, self.ahead, self.deeds)
        changes = self.do_all(deeds)
        self.entries, self.past, self.ahead, self.deeds = kept
        return changes

    def do(self, deed):
        """Do one deed, or raise the error that is due."""
        if deed[0] == "undo":
            if not self.past:
                raise NothingToUndo()
            self.ahead = self.ahead + [self.entries]
            self.entries = self.past[-1]
            self.past = self.past[:-1]
        elif deed[0] == "redo":
            if not self.ahead:
                raise NothingToRedo()
            self.past = self.past + [self.entries]
            self.entries = self.ahead[-1]
            self.ahead = self.ahead[:-1]
        else:
            entries = self.entries_behind(deed)
            self.past = self.past + [self.entries]
            self.ahead = []
            self.entries = entries
        self.deeds = self.deeds + [copied_deed(deed)]

    def entries_behind(self, deed):
        """Return what is kept behind a deed that is no undo and no redo, or raise the error that is due."""
        if deed[0] == "put":
            return with_rule(self.letters, self.entries, deed[1], deed[2])
        if deed[0] == "remove":
            return without_name(self.entries, deed[1])
        return with_other_name(self.entries, deed[1], deed[2])

    def names(self):
        """Return the names, in order."""
        return list(self.entries)

    def rule(self, name):
        """Return the rule of the name, or raise UnknownName."""
        check_known(self.entries, name)
        return copied(self.entries[name].held_rule)

    def machine(self, name):
        """Return the machine of the name, or raise UnknownName."""
        check_known(self.entries, name)
        table, ends = self.entries[name].held_machine
        return [list(row) for row in table], list(ends)

    def written_out(self, name):
        """Return the rule of the name written out, or raise UnknownName, BadSize or TooDeep."""
        check_known(self.entries, name)
        return written_rule(self.entries, name)

    def users(self, name):
        """Return the names in whose rules the name stands, in order, or raise UnknownName."""
        check_known(self.entries, name)
        return users_of(self.entries, name)

    def journal(self):
        """Return the deeds that raised no error, in order."""
        return [copied_deed(deed) for deed in self.deeds]

    @property
    def can_undo(self):
        """Whether there is a deed that can be taken back."""
        return len(self.past) > 0

    @property
    def can_redo(self):
        """Whether there is a deed that can be put in force again."""
        return len(self.ahead) > 0

    def __len__(self):
        return len(self.entries)

    def __contains__(self, name):
        return name in self.entries


def replay(letters, journal):
    """Return the hall that the journal makes, or raise BadLetters or BadEntry."""
    hall = Hall(letters)
    for place, deed in enumerate(journal):
        try:
            hall.do_all([deed])
        except HallError:
            raise BadEntry(place)
    return hall
