"""Which nodes of a sheet have trees for which pieces of a word."""

from hallofwords.bits import bits_of, mask_of
from hallofwords.nodes import nodes_in, nodes_of, without_signs


class Chart:
    """The pieces of a word that the nodes of a sheet have.

    The item ends[node][begin] is the mask of the ends of such pieces, and begins[node][end] that of
    their begins. An item of the chart is a tuple (node, begin, end).
    """

    def __init__(self, sheet, word):
        self.nodes = nodes_of(sheet)
        self.word = word
        self.ends = [[0] * (len(word) + 1) for _ in self.nodes]
        self.begins = [[0] * (len(word) + 1) for _ in self.nodes]
        empties = without_signs(self.nodes)
        above = nodes_above(self.nodes, empties)
        for place in range(len(word) + 1):
            self.put(mask_of(list(empties)), place, place)
        for length in range(1, len(word) + 1):
            for begin in range(len(word) - length + 1):
                mask = 0
                for number in self.had_at_once(begin, begin + length):
                    mask = mask | above[number]
                self.put(mask, begin, begin + length)

    def put(self, mask, begin, end):
        """Put in that the nodes of the mask have the piece."""
        for number in bits_of(mask):
            self.ends[number][begin] = self.ends[number][begin] | 1 << end
            self.begins[number][end] = self.begins[number][end] | 1 << begin

    def had_at_once(self, begin, end):
        """Return the nodes that have a piece with signs by themselves, or by two parts with signs."""
        between = (1 << end) - (2 << begin)
        found = []
        for number, node in enumerate(self.nodes):
            if node[0] == "one" and end == begin + 1 and self.word[begin] in list(node[1]):
                found.append(number)
            if node[0] == "pair" and self.ends[node[1]][begin] & self.begins[node[2]][end] & between:
                found.append(number)
        return found

    def has(self, item):
        """Tell whether the node has the piece."""
        number, begin, end = item
        return self.ends[number][begin] >> end & 1 == 1

    def items_in(self, item):
        """Return the items that stand directly in trees of an item that the chart has; for a pair two by two."""
        number, begin, end = item
        node = self.nodes[number]
        if node[0] != "pair":
            inner = [(part, begin, end) for part in nodes_in(node)]
            return [other for other in inner if self.has(other)]
        _, first, rest = node
        cuts = bits_of(self.ends[first][begin] & self.begins[rest][end])
        return [other for cut in cuts[::-1] for other in ((first, begin, cut), (rest, cut, end))]


def nodes_above(nodes, empties):
    """Return for each node the mask of the nodes that have each piece with signs that the node has, itself too."""
    around = [[] for _ in nodes]
    for number, node in enumerate(nodes):
        for part in nodes_in(node):
            if node[0] != "pair" or node[2 if part == node[1] else 1] in empties:
                around[part].append(number)
    found = []
    for number in range(len(nodes)):
        met = {number: True}
        waiting = [number]
        while waiting:
            for other in around[waiting.pop()]:
                if other not in met:
                    met[other] = True
                    waiting.append(other)
        found.append(mask_of(list(met)))
    return found
