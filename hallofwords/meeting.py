"""Going through the things that are met from a first one by letters."""


class Meeting:
    """Things that are met, in the order of the first words that lead to them.

    The list things has them, and rows has for each of them the places of the things to which
    the letters lead from it.
    """

    def __init__(self, first):
        self.things = [first]
        self.rows = []
        self.places = {first: 0}
        # The place from which a thing was met first, and the sign by which.
        self.steps = [(0, "")]

    def place_by(self, thing, before, sign):
        """Return the place of the thing that is met from another place by this sign."""
        if thing not in self.places:
            self.places[thing] = len(self.things)
            self.things.append(thing)
            self.steps.append((before, sign))
        return self.places[thing]

    def first_word_to(self, place):
        """Return the first word that leads to the thing at this place."""
        signs = []
        while place > 0:
            place, sign = self.steps[place]
            signs.append(sign)
        return "".join(signs[::-1])


def meet(letters, first, step, *, most=None):
    """Return the meeting of all things that are met from the first one, or None if they are more than most.

    From a thing the letter at the place k of the letters leads to step(thing, k).
    """
    meeting = Meeting(first)
    while len(meeting.rows) < len(meeting.things):
        before = len(meeting.rows)
        row = []
        for at, sign in enumerate(letters):
            row.append(meeting.place_by(step(meeting.things[before], at), before, sign))
        meeting.rows.append(row)
        if most is not None and len(meeting.things) > most:
            return None
    return meeting


def side_by_side(machines):
    """Return the step from a tuple of states, one of each machine, by which each of them goes on."""
    tables = [machine[0] for machine in machines]

    def step(states, at):
        return tuple([table[state][at] for table, state in zip(tables, states)])

    return step


def numbered(values):
    """Return a number for each value, the same one for equal ones, in the order in which they come."""
    numbers = {}
    for value in values:
        if value not in numbers:
            numbers[value] = len(numbers)
    return [numbers[value] for value in values]


def alike(rows, ends, *, most=None):
    """Return a number for each state, the same one for those that are alike, or None if they are more than most."""
    kinds = numbered(ends)
    many = 0
    while max(kinds) >= many:
        many = max(kinds) + 1
        if most is not None and many > most:
            return None
        kinds = numbered([tuple([kind] + [kinds[state] for state in row]) for kind, row in zip(kinds, rows)])
    return kinds


def least_of(meeting, is_end, *, most=None):
    """Return the least machine of the things that were met, or None if it has more than most states."""
    ends = [is_end(thing) for thing in meeting.things]
    kinds = alike(meeting.rows, ends, most=most)
    if kinds is None:
        return None
    table = []
    least_ends = []
    for kind, row, end in zip(kinds, meeting.rows, ends):
        # Kinds are numbered as they come, and states come in the order of their first words.
        if kind == len(table):
            table.append([kinds[state] for state in row])
            least_ends.append(end)
    return table, least_ends
