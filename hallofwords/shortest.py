"""The first words of the nodes of a sheet that lead from state to state of a machine."""

from heapq import heappop, heappush

from hallofwords.letters import ALPHABET
from hallofwords.nodes import nodes_in
from hallofwords.ranks import from_ranks

# Of longer words only the number of signs is kept.
MOST_KEPT = 200


class Found:
    """The first words found so far: a dict with a tuple (length, word in ranks) for each tuple (node, p, q).

    Of words with more than 200 signs only the length is right. From and into have, for a node and a
    state, the states to which words of the node are known to lead from it, and from which to it.
    """

    def __init__(self):
        self.words = {}
        self.leads_to = {}
        self.led_from = {}

    def put(self, node, p, q, length, word):
        """Put the first word of the node in that leads from p to q."""
        self.words[(node, p, q)] = (length, word)
        self.leads_to.setdefault((node, p), []).append(q)
        self.led_from.setdefault((node, q), []).append(p)


def put_behind(one, other):
    """Return the length and the word of one first word behind another one."""
    length = one[0] + other[0]
    return length, one[1] + other[1] if length <= MOST_KEPT else ""


def at_once(letters, nodes, machine):
    """Return the tuples (length, word, node, p, q) of the words of the nodes that have no other nodes in them."""
    told = []
    for number, node in enumerate(nodes):
        for p, row in enumerate(machine[0]):
            if node[0] == "empty":
                told.append((0, "", number, p, p))
            if node[0] == "one":
                for sign in node[1]:
                    at = letters.index(sign)
                    told.append((1, ALPHABET[at], number, p, row[at]))
    return told


def nodes_around(nodes):
    """Return for each node the list of the nodes in which it directly stands, each once."""
    around = [{} for _ in nodes]
    for number, node in enumerate(nodes):
        for part in nodes_in(node):
            around[part][number] = True
    return [list(listed) for listed in around]


def made_of(nodes, found, number, part, p, q):
    """Return the tuples of the words of a node that are made of the first word of a part from p to q."""
    told = found.words[(part, p, q)]
    node = nodes[number]
    if node[0] != "pair":
        return [told + (number, p, q)]
    _, first, rest = node
    if part == first:
        return [
            put_behind(told, found.words[(rest, q, r)]) + (number, p, r)
            for r in found.leads_to.get((rest, q), [])
        ]
    return [
        put_behind(found.words[(first, r, p)], told) + (number, r, q)
        for r in found.led_from.get((first, p), [])
    ]


def first_words(letters, nodes, machine):
    """Return a dict with the length and the first word, in ranks, for each node and two states between which one leads.

    The words are found in order: no word is made of one that stands behind it.
    """
    around = nodes_around(nodes)
    found = Found()
    waiting = []
    for told in at_once(letters, nodes, machine):
        heappush(waiting, told)
    while waiting:
        length, word, part, p, q = heappop(waiting)
        if (part, p, q) not in found.words:
            found.put(part, p, q, length, word)
            for number in around[part]:
                for told in made_of(nodes, found, number, part, p, q):
                    if told[2:] not in found.words:
                        heappush(waiting, told)
    return found.words


def first_to(letters, words, states):
    """Return the length and the first word of node 0 that leads from state 0 to one of the states, or None."""
    told = [words[(0, 0, state)] for state in states if (0, 0, state) in words]
    if not told:
        return None
    length, word = min(told)
    return length, from_ranks(letters, word)
