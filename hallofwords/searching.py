"""The first word by which something can be met, where a letter may lead from a node to several ones."""


def first_word_met(letters, first, step, holds, *, most):
    """Return the first word by which a node is met for which holds is true, or None, and the nodes met until then.

    From a node the letter at the place k of the letters leads to the nodes in step(node, k). Of the
    nodes with the same spot, which is the first element of a node, no more than most are met: those
    that are met by the first words. The nodes are told by a dict with a list for each spot.
    """
    met = {first[0]: [first]}
    layer = [("", [first])]
    while layer:
        for word, nodes in layer:
            if any([holds(node) for node in nodes]):
                return word, met
        following = []
        for word, nodes in layer:
            for at, sign in enumerate(letters):
                fresh = put_in(met, [reached for node in nodes for reached in step(node, at)], most)
                if fresh:
                    following.append((word + sign, fresh))
        layer = following
    return None, met


def put_in(met, nodes, most):
    """Put those nodes in that were not met yet, as far as there is place at their spots, and return them."""
    fresh = []
    for node in nodes:
        listed = met.setdefault(node[0], [])
        if len(listed) < most and node not in listed:
            listed.append(node)
            fresh.append(node)
    return fresh
