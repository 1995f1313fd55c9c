"""Sets of small numbers that are kept as one number, with a bit for each of them."""


def bits_of(mask):
    """Return the list of the places of the bits, ascending."""
    found = []
    while mask:
        lowest = mask & -mask
        found.append(lowest.bit_length() - 1)
        mask = mask ^ lowest
    return found


def mask_of(places):
    """Return the number that has a bit at each of the places."""
    mask = 0
    for place in places:
        mask = mask | 1 << place
    return mask
