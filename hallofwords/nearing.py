"""The words that are written by lists of moves of least cost."""

from hallofwords.bits import bits_of


def sign_written(move):
    """Return the sign that the move writes, and no sign for a drop."""
    return "" if move[0] == "drop" else move[-1]


def tight_steps(steps, numbers):
    """Return for each node a dict of the nodes to which moves of lists of least cost lead, by the sign written."""
    found = []
    for node, leading in enumerate(steps):
        reached = {}
        for move, cost, behind in leading:
            if numbers[behind] is not None and numbers[behind] + cost == numbers[node]:
                reached.setdefault(sign_written(move), []).append(behind)
        found.append(reached)
    return found


def lengths_left(tight, ends, nodes):
    """Return for each node the mask of the numbers of signs that are written from it to an end.

    The nodes are told in such an order that each comes behind those to which it leads.
    """
    lengths = [0] * len(tight)
    for node in nodes:
        mask = 1 if ends[node] else 0
        for sign, reached in tight[node].items():
            for behind in reached:
                mask = mask | lengths[behind] << len(sign)
        lengths[node] = mask
    return lengths


def without_signs(tight, nodes):
    """Return the nodes and all those to which they lead with nothing written."""
    found = list(nodes)
    place = 0
    while place < len(found):
        found.extend([node for node in tight[found[place]].get("", []) if node not in found])
        place += 1
    return found


def written_next(letters, tight, word, nodes):
    """Return for each letter the word with it, and the nodes to which writing it leads from these."""
    listed = without_signs(tight, nodes)
    found = []
    for sign in letters:
        reached = {behind: True for node in listed for behind in tight[node].get(sign, [])}
        found.append((word + sign, list(reached)))
    return found


def words_of_length(letters, tight, lengths, length, most):
    """Return the first words of this length that are written from node 0 on, at most so many."""
    begun = [("", [0])]
    for left in range(length - 1, -1, -1):
        longer = [told for word, nodes in begun for told in written_next(letters, tight, word, nodes)]
        # Each beginning that is kept is that of some word, so that more of them are of no use.
        begun = [told for told in longer if any([lengths[node] >> left & 1 for node in told[1]])][:most]
    return [word for word, _ in begun]


def first_written(letters, steps, ends, numbers, nodes, most):
    """Return the first words, in order, that lists of least cost write from node 0 on, at most so many.

    The numbers are the least costs from each node; the nodes are told as for lengths_left.
    """
    tight = tight_steps(steps, numbers)
    lengths = lengths_left(tight, ends, nodes)
    found = []
    for length in bits_of(lengths[0]):
        if len(found) < most:
            found.extend(words_of_length(letters, tight, lengths, length, most - len(found)))
    return found
