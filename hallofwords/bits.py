"""Sets of small numbers that are kept as one number, with a bit for each of them."""


def bits_of(mask):
    """Return the list of the places of the bits, ascending."""
    digits = f"{mask:b}"[::-1]
    found = []
    place = digits.find("1")
    while place >= 0:
        found.append(place)
        place = digits.find("1", place + 1)
    return found


def mask_of(places):
    """Return the number that has a bit at each of the places."""
    mask = 0
    for place in places:
        mask = mask | 1 << place
    return mask
