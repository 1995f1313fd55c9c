"""Places of a machine in a text that is fed piece by piece."""

from hallofwords.errors import BadSize
from hallofwords.machines import lead_on

MOST_FED = 400


class Finder:
    """Tells the places of a machine in the text that is fed to it."""

    def __init__(self, letters, machine):
        table, ends = machine
        self.letters = letters
        self.table = [list(row) for row in table]
        self.ends = list(ends)
        # For each begin the state to which the signs behind it lead.
        self.states = [0]

    def begun(self):
        """Return the places in a text without signs."""
        return [(0, 0)] if self.ends[0] else []

    def feed(self, piece):
        """Put the piece behind the text and return the places that end in it, or raise BadSize."""
        if self.fed + len(piece) > MOST_FED:
            raise BadSize(self.fed + len(piece))
        found = []
        for sign in piece:
            at = self.letters.index(sign)
            self.states = [self.table[state][at] for state in self.states] + [0]
            found.extend([(begin, self.fed) for begin, state in enumerate(self.states) if self.ends[state]])
        return found

    def waiting(self):
        """Return the begins of which a place may still end behind the text, ascending."""
        leading = lead_on((self.table, self.ends))
        return [
            begin for begin, state in enumerate(self.states)
            if any([leading[reached] for reached in self.table[state]])
        ]

    @property
    def fed(self):
        """The number of the signs that were fed."""
        return len(self.states) - 1
