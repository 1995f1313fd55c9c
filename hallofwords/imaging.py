"""The places from which a turner still has something to write.

A place is a tuple (rest, q, s) of a word that is still to be written, a state of the turner and a
state of the machine; the end is told by None in the place of both states.
"""

from hallofwords.bits import mask_of
from hallofwords.machines import run_from


def led_silently(letters, turner, machine, place):
    """Return the places to which a place leads with nothing written."""
    rest, q, s = place
    moves, ends = turner
    if rest != "" or q is None:
        return []
    found = []
    for sign, listed in zip(letters, moves[q]):
        behind = run_from(letters, machine, s, sign)
        found.extend([(word, p, behind) for word, p in listed])
    if machine[1][s]:
        found.extend([(word, None, None) for word in ends[q]])
    return found


def led_by_writing(place):
    """Return the place to which writing the first sign of the rest leads, in a list; none without a rest."""
    rest, q, s = place
    return [(rest[1:], q, s)] if rest != "" else []


def all_to_write(letters, turner, machine):
    """Return the numbers of the places, in the order in which they are met, and where they lead silently."""
    numbers = {("", 0, 0): 0}
    places = [("", 0, 0)]
    silent = []
    while len(silent) < len(places):
        place = places[len(silent)]
        listed = led_silently(letters, turner, machine, place)
        for reached in listed + led_by_writing(place):
            if reached not in numbers:
                numbers[reached] = len(places)
                places.append(reached)
        silent.append([numbers[reached] for reached in listed])
    return numbers, silent


def with_silent(empties, direct, place):
    """Return the mask of the place and of all places to which it leads with nothing written.

    For the places without a rest, direct has the masks of those to which they lead at once, and
    empties the lists of those among these that have no rest either.
    """
    found = {place: True}
    waiting = [place]
    mask = 1 << place
    while waiting:
        reached = waiting.pop()
        mask = mask | direct.get(reached, 0)
        for behind in empties.get(reached, []):
            if behind not in found:
                found[behind] = True
                waiting.append(behind)
    return mask


def places_to_write(letters, turner, machine):
    """Return the first set of places, where places lead by writing, and the set of the end alone, as masks.

    Where they lead is told by a list with a tuple for each letter: the mask of the places whose rest
    begins with it, and a dict with the mask to which each of these leads.
    """
    numbers, silent = all_to_write(letters, turner, machine)
    without_rest = {number: True for place, number in numbers.items() if place[0] == ""}
    direct = {number: mask_of(silent[number]) for number in without_rest}
    empties = {number: [behind for behind in silent[number] if behind in without_rest] for number in without_rest}
    masks = {number: with_silent(empties, direct, number) for number in numbers.values()}
    leading = []
    for sign in letters:
        reached = {}
        for place, number in numbers.items():
            for behind in led_by_writing(place):
                if place[0][0] == sign:
                    reached[number] = masks[numbers[behind]]
        leading.append((mask_of(list(reached)), reached))
    end = numbers.get(("", None, None))
    return masks[0], leading, 0 if end is None else 1 << end
