"""The trees of a sheet for one word: their numbers, their order, and where there are endlessly many."""

from hallofwords.charts import Chart
from hallofwords.errors import TooMany

MOST_TREE_PARTS = 200


class Forest:
    """The numbers of the trees of a sheet for the pieces of one word, and of its nodes.

    The dict numbers has them for each item that stands in trees of the whole word, and None for
    endlessly many. The item of the whole word is the top.
    """

    def __init__(self, sheet, word):
        self.chart = Chart(sheet, word)
        self.top = (0, 0, len(word))
        self.numbers = numbers_from(self.chart, self.top) if self.chart.has(self.top) else {self.top: 0}

    def number_at(self, item):
        """Return the number of the trees of the item, None for endlessly many."""
        return self.numbers.get(item, 0)

    def chosen(self, item, place):
        """Return how the tree of the item with this place begins, and the trees in it, each an item and a place.

        How it begins is told by a tuple: ("leaf", tree), ("mark", place or name) or ("row", parts).
        """
        number, begin, end = item
        node = self.chart.nodes[number]
        if node[0] == "name":
            return ("mark", node[1]), [((node[2], begin, end), place)]
        if node[0] == "either":
            for at, part in enumerate(node[1]):
                many = self.number_at((part, begin, end))
                if place < many:
                    return ("mark", at), [((part, begin, end), place)]
                place -= many
        if node[0] == "pair":
            return self.chosen_row(item, place)
        return ("leaf", () if node[0] == "empty" else self.chart.word[begin:end]), []

    def chosen_row(self, item, place):
        """Return the same for the first item of a row."""
        parts = []
        inner = []
        number, begin, end = item
        node = self.chart.nodes[number]
        while node[0] == "pair":
            _, first, rest = node
            cut = end
            while place >= self.many_cut(node, begin, cut, end):
                place -= self.many_cut(node, begin, cut, end)
                cut -= 1
            behind = self.number_at((rest, cut, end))
            parts.append(self.chart.word[begin:cut])
            inner.append(((first, begin, cut), place // behind))
            place = place % behind
            begin = cut
            node = self.chart.nodes[rest]
        return ("row", parts), inner

    def many_cut(self, node, begin, cut, end):
        """Return the number of the trees of a pair whose first part ends at the cut."""
        return self.number_at((node[1], begin, cut)) * self.number_at((node[2], cut, end))

    def tree_with(self, place):
        """Return the tree of the whole word with this place, or raise TooMany if it has too many parts."""
        waiting = [(self.top, place)]
        made = []
        while waiting:
            if len(made) == MOST_TREE_PARTS:
                raise TooMany()
            item, place = waiting.pop()
            shape, inner = self.chosen(item, place)
            made.append(shape)
            waiting.extend(inner[::-1])
        return tree_of(made)

    def place_with(self, tree):
        """Return the place of a tree of the whole word."""
        total = 0
        waiting = [(self.top, tree, 1)]
        while waiting:
            item, told, times = waiting.pop()
            number, begin, end = item
            node = self.chart.nodes[number]
            if node[0] == "name":
                waiting.append(((node[2], begin, end), told[1], times))
            if node[0] == "either":
                ahead = [self.number_at((part, begin, end)) for part in node[1][:told[0]]]
                total += times * sum(ahead)
                waiting.append(((node[1][told[0]], begin, end), told[1], times))
            if node[0] == "pair":
                ahead, inner = self.places_in_row(item, told)
                total += times * ahead
                waiting.extend([(other, part, times * more) for other, part, more in inner])
        return total

    def places_in_row(self, item, pairs):
        """Return what stands ahead of a row with these parts, and the items, the trees and their times in it."""
        number, begin, end = item
        total = 0
        inner = []
        for part, tree in pairs:
            node = self.chart.nodes[number]
            _, first, number = node
            cut = begin + len(part)
            total += sum([self.many_cut(node, begin, far, end) for far in range(cut + 1, end + 1)])
            inner.append(((first, begin, cut), tree, self.number_at((number, cut, end))))
            begin = cut
        return total, inner

    def names_under(self, item):
        """Return the items of names that stand right under the item of a name, in order."""
        found = {}
        met = {}
        waiting = self.chart.items_in(item) if self.chart.has(item) else []
        while waiting:
            other = waiting.pop()
            if self.chart.nodes[other[0]][0] == "name":
                found[other] = True
            elif other not in met:
                met[other] = True
                waiting.extend(self.chart.items_in(other))
        return sorted(list(found))

    def endless_items(self):
        """Return the items of the told endless paper; there are endlessly many trees."""
        items = [self.top]
        while items[-1] not in items[:-1]:
            endless = [item for item in self.names_under(items[-1]) if self.number_at(item) is None]
            items.append(endless[0])
        return items


def numbers_from(chart, top):
    """Return a dict with the number of trees of each item that stands in trees of this one, None for endlessly many."""
    numbers = {}
    # The items that were gone into, with those in them. One that is not left again is around the item at hand.
    inner = {}
    waiting = [top]
    while waiting:
        item = waiting.pop()
        if item in inner:
            if item not in numbers:
                numbers[item] = number_of(chart, item, [numbers.get(other) for other in inner[item]])
        else:
            inner[item] = chart.items_in(item)
            waiting.append(item)
            waiting.extend([other for other in inner[item] if other not in inner])
    return numbers


def number_of(chart, item, inner):
    """Return the number of trees of an item in which items with these numbers stand."""
    if None in inner:
        return None
    kind = chart.nodes[item[0]][0]
    if kind == "pair":
        return sum([first * rest for first, rest in zip(inner[::2], inner[1::2])])
    return sum(inner) if inner else 1


def tree_of(made):
    """Return the tree whose parts begin so, in the order in which each stands ahead of those in it."""
    trees = []
    for kind, told in made[::-1]:
        if kind == "leaf":
            trees.append(told)
        elif kind == "mark":
            trees.append((told, trees.pop()))
        else:
            trees.append([(part, trees.pop()) for part in told])
    return trees[0]
