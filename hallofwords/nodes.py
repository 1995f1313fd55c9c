"""The parts of the bodies of a sheet as numbered nodes, each row cut into its first rule and the others.

A node is a tuple of one of these forms, with the numbers of other nodes:
- ("name", name, body): the name at the place k in the sheet has the number k;
- ("empty",), ("one", signs);
- ("either", nodes) with a tuple of nodes;
- ("pair", first, rest): a first part, and behind it the rest of a row, which is a pair or, behind the
  last rule, the node ("empty",) whose number is that of the names.
"""


def nodes_of(sheet):
    """Return the list of the nodes of the sheet."""
    names = {name: number for number, (name, _) in enumerate(sheet)}
    nodes = [("name", name, None) for name in names]
    nodes.append(("empty",))
    for number, (name, body) in enumerate(sheet):
        nodes[number] = ("name", name, put_in(nodes, names, body))
    return nodes


def put_in(nodes, names, rule):
    """Put the nodes of the rule behind the nodes and return the number of its own one."""
    kind = rule[0]
    if kind == "name":
        return names[rule[1]]
    if kind == "row":
        parts = [put_in(nodes, names, part) for part in rule[1]]
        number = len(names)
        for part in parts[::-1]:
            nodes.append(("pair", part, number))
            number = len(nodes) - 1
        return number
    if kind == "either":
        parts = [put_in(nodes, names, part) for part in rule[1]]
        nodes.append((kind, tuple(parts)))
    else:
        nodes.append(rule)
    return len(nodes) - 1


def nodes_in(node):
    """Return the nodes that stand directly in a node."""
    if node[0] == "either":
        return list(node[1])
    if node[0] == "name":
        return [node[2]]
    return list(node[1:]) if node[0] == "pair" else []


def has_word_of(node, known):
    """Tell whether some word belongs to the node, if those nodes that are known have words."""
    if node[0] == "either":
        return any([part in known for part in node[1]])
    return all([part in known for part in nodes_in(node)])


def closed_under(nodes, holds):
    """Return a dict of the nodes for which holds(node, known) is true of those that are known before."""
    known = {}
    many = -1
    while len(known) > many:
        many = len(known)
        for number, node in enumerate(nodes):
            if number not in known and holds(node, known):
                known[number] = True
    return known


def with_words(nodes):
    """Return a dict of the nodes to which some word belongs."""
    return closed_under(nodes, has_word_of)


def without_signs(nodes):
    """Return a dict of the nodes to which the word without signs belongs."""
    return closed_under(nodes, lambda node, known: node[0] != "one" and has_word_of(node, known))


def used_nodes(nodes):
    """Return a dict of the nodes that stand in some tree of the node 0."""
    worded = with_words(nodes)
    found = {}
    waiting = [0]
    while waiting:
        number = waiting.pop()
        if number in worded and number not in found:
            found[number] = True
            waiting.extend(nodes_in(nodes[number]))
    return found
