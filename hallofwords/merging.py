"""The sample of a machine, and the machine that merging makes of told words."""

from hallofwords.errors import BadSize, Contradiction, TooGreat
from hallofwords.leastness import access_words, parting_words
from hallofwords.letters import in_order
from hallofwords.machines import is_taken, least

MOST_SAMPLED = 8
MOST_KEPT = 20


def sample_of(letters, machine):
    """Return the sample of the machine, the taken words and the others, or raise BadSize."""
    lesser = least(letters, machine)
    if len(lesser[0]) > MOST_SAMPLED:
        raise BadSize(len(lesser[0]))
    begins = [""] + [word + sign for word in access_words(letters, lesser) for sign in letters]
    ends = [""] + parting_words(letters, lesser)
    words = in_order(letters, [begin + end for begin in begins for end in ends])
    yes = [word for word in words if is_taken(letters, lesser, word)]
    return yes, [word for word in words if not is_taken(letters, lesser, word)]


class Together:
    """Beginnings of told words, numbered in order, and which of them are together.

    Of those that are together the least one is their head, to which above leads from the others. A
    head has a dict with one of the beginnings to which each letter leads from those that are
    together with it, and True, False or None for what is told of them.
    """

    def __init__(self, letters, yes, no):
        takers = {word: True for word in yes}
        others = {word: True for word in no}
        told = [word[:length] for word in list(takers) + list(others) for length in range(len(word) + 1)]
        words = in_order(letters, [""] + told)
        numbers = {word: number for number, word in enumerate(words)}
        self.above = list(range(len(words)))
        self.marks = [True if word in takers else False if word in others else None for word in words]
        self.leading = [{} for _ in words]
        for word in words[1:]:
            self.leading[numbers[word[:-1]]][word[-1]] = numbers[word]

    def head_of(self, number, above):
        """Return the head of a beginning, where above says what would be changed by a joining."""
        while above.get(number, self.above[number]) != number:
            number = above.get(number, self.above[number])
        return number

    def put_together(self, one, other):
        """Put two beginnings together, with all that follows, and return True, or return False if this fails."""
        above = {}
        marks = {}
        leading = {}
        waiting = [(one, other)]
        while waiting:
            one, other = waiting.pop()
            one, other = sorted([self.head_of(one, above), self.head_of(other, above)])
            if one != other:
                told = [marks.get(head, self.marks[head]) for head in (one, other)]
                if True in told and False in told:
                    return False
                above[other] = one
                marks[one] = told[0] if told[1] is None else told[1]
                kept = dict(leading.get(one, self.leading[one]))
                for sign, behind in list(leading.get(other, self.leading[other]).items()):
                    waiting.append((kept.setdefault(sign, behind), behind))
                leading[one] = kept
        self.take_over(above, marks, leading)
        return True

    def take_over(self, above, marks, leading):
        """Change what a joining changes."""
        for number, head in above.items():
            self.above[number] = head
        for head, mark in marks.items():
            self.marks[head] = mark
        for head, behind in leading.items():
            self.leading[head] = behind


def merged_fit(letters, yes, no):
    """Return the machine that merging makes of the told words, or raise Contradiction or TooGreat."""
    for word in in_order(letters, yes):
        if word in no:
            raise Contradiction(word)
    together = Together(letters, yes, no)
    kept = kept_ones(together)
    places = {number: place for place, number in enumerate(kept)}
    table = []
    for number in kept:
        leading = together.leading[number]
        reached = [together.head_of(leading[sign], {}) if sign in leading else 0 for sign in letters]
        table.append([places[head] for head in reached])
    return least(letters, (table, [together.marks[number] is True for number in kept]))


def kept_ones(together):
    """Return the numbers of the beginnings that are kept, with all others put together with them, or raise TooGreat."""
    kept = [0]
    for number in range(1, len(together.above)):
        if together.head_of(number, {}) not in kept and not is_put_to_one(together, kept, number):
            if len(kept) == MOST_KEPT:
                raise TooGreat()
            kept.append(number)
    return kept


def is_put_to_one(together, kept, number):
    """Put the beginning together with the first kept one with which this does not fail, and tell whether one is."""
    for ahead in kept:
        if together.put_together(ahead, number):
            return True
    return False
