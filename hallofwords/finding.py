"""Places of a machine in a text."""


def ends_from(letters, machine, text, begin):
    """Return the ends of the places with this begin, ascending."""
    table, ends = machine
    state = 0
    found = [begin] if ends[0] else []
    for place in range(begin, len(text)):
        state = table[state][letters.index(text[place])]
        if ends[state]:
            found.append(place + 1)
    return found


def all_places(letters, machine, text):
    """Return all places of the machine in the text, in order."""
    begins = [[] for _ in range(len(text) + 1)]
    for begin in range(len(text) + 1):
        for end in ends_from(letters, machine, text, begin):
            begins[end].append(begin)
    return [(begin, end) for end, listed in enumerate(begins) for begin in listed]


def count_places(letters, machine, text):
    """Return the number of the places of the machine in the text."""
    table, ends = machine
    # How many begins stand at each state.
    standing = [0] * len(table)
    standing[0] = 1
    many = 1 if ends[0] else 0
    for sign in text:
        at = letters.index(sign)
        moved = [0] * len(table)
        for state, number in enumerate(standing):
            moved[table[state][at]] += number
        moved[0] += 1
        many += sum([number for number, end in zip(moved, ends) if end])
        standing = moved
    return many


def greatest(letters, machine, text):
    """Return the greatest places of the machine in the text, as they are told from the left."""
    told = []
    at = 0
    while at <= len(text):
        ends = ends_from(letters, machine, text, at)
        if ends and ends[-1] > at:
            told.append((at, ends[-1]))
            at = ends[-1]
        else:
            if ends and not (told and told[-1][1] == at):
                told.append((at, at))
            at += 1
    return told


def replaced(letters, machine, text, by):
    """Return the text with the word in the place of each greatest place."""
    pieces = []
    done = 0
    for begin, end in greatest(letters, machine, text):
        pieces.append(text[done:begin] + by)
        done = end
    return "".join(pieces) + text[done:]
