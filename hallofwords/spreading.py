"""Rests of one-sided sheets, which are opened until their first rule is a "one".

Rules have numbers, the same one for equal ones, and a rest is a tuple of such numbers. Rests that are
kept have numbers, too, and a set of them is a mask; the rest without rules has the number 0.
"""

from hallofwords.bits import bits_of, mask_of
from hallofwords.writing import write_rule


class Spreading:
    """The rests of a sheet that were met so far."""

    def __init__(self, sheet):
        self.bodies = {name: body for name, body in sheet}
        # Equal rules have equal texts.
        self.numbers = {}
        self.rules = []
        self.kept = {(): 0}
        self.rests = [()]
        self.masks = {}

    def number_of(self, rule):
        """Return the number of the rule."""
        text = write_rule(rule)
        if text not in self.numbers:
            self.numbers[text] = len(self.rules)
            self.rules.append(rule)
        return self.numbers[text]

    def opened(self, rest):
        """Return the rests that come of a rest whose first rule is no "one"."""
        rule = self.rules[rest[0]]
        behind = rest[1:]
        if rule[0] == "empty":
            return [behind]
        if rule[0] == "row":
            return [tuple([self.number_of(part) for part in rule[1]]) + behind]
        if rule[0] == "either":
            return [(self.number_of(part),) + behind for part in rule[1]]
        return [(self.number_of(self.bodies[rule[1]]),) + behind]

    def is_kept(self, rest):
        """Tell whether the rest has no rule, or a "one" as its first one."""
        return rest == () or self.rules[rest[0]][0] == "one"

    def spread(self, rest):
        """Return the mask of the rests that are kept when the rest is spread."""
        if rest not in self.masks:
            met = {rest: True}
            waiting = [rest]
            kept = []
            while waiting:
                one = waiting.pop()
                if self.is_kept(one):
                    kept.append(self.kept_number(one))
                else:
                    fresh = [other for other in self.opened(one) if other not in met]
                    met.update({other: True for other in fresh})
                    waiting.extend(list({other: True for other in fresh}))
            self.masks[rest] = mask_of(kept)
        return self.masks[rest]

    def kept_number(self, rest):
        """Return the number of a rest that is kept."""
        if rest not in self.kept:
            self.kept[rest] = len(self.rests)
            self.rests.append(rest)
        return self.kept[rest]

    def first_set(self, name):
        """Return the mask of the rests that are kept when the rest of the name alone is spread."""
        return self.spread((self.number_of(("name", name)),))

    def set_behind(self, mask, sign):
        """Return the mask of the rests that are met from those of the mask by this letter."""
        found = 0
        for number in bits_of(mask):
            rest = self.rests[number]
            if rest != () and sign in list(self.rules[rest[0]][1]):
                found = found | self.spread(rest[1:])
        return found
