"""What two words begin with, and what is left of them behind it."""


def common_begin(one, other):
    """Return the longest word with which both words begin."""
    if other.startswith(one):
        return one
    length = 0
    while length < len(other) and one[length] == other[length]:
        length += 1
    return one[:length]


def rest_of(one, other):
    """Return the pair of what is left of the words without the signs with which both begin."""
    length = len(common_begin(one, other))
    return one[length:], other[length:]
