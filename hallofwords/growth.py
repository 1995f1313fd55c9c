"""How fast the numbers of words of a machine grow, and papers that show it."""

from hallofwords.machines import run, run_from
from hallofwords.numbers import upto
from hallofwords.staying import first_word_back, first_word_between, letters_staying, reached_from, useful_states


def growth(letters, machine):
    """Return the growth of the machine."""
    staying = letters_staying(letters, machine)
    if max([len(signs) for signs in staying]) > 1:
        return growing_more(letters, machine, staying)
    degree = least_rings(letters, machine, staying)[0]
    if degree is None or degree == 0:
        return ("finite", upto(letters, machine, len(machine[0])))
    return ("power", degree)


def growing_more(letters, machine, staying):
    """Return the growth "more" of a machine at one of whose states two letters stay or more."""
    begin = first_word_between(letters, machine, 0, lambda reached: len(staying[reached]) > 1)
    state = run(letters, machine, begin)
    one, other = [first_word_back(letters, machine, state, letters.index(sign)) for sign in staying[state][:2]]
    end = first_word_between(letters, machine, state, lambda reached: machine[1][reached])
    return ("more", begin, state, one + other, other + one, end)


def useful_steps(letters, machine):
    """Return for each state the list of the letters that lead from it to a useful one, with that one.

    For a state that is not useful the list is empty.
    """
    useful = useful_states(letters, machine)
    return [
        [(sign, reached) for sign, reached in zip(letters, row) if useful[state] and useful[reached]]
        for state, row in enumerate(machine[0])
    ]


def raised(steps, numbers, rise):
    """Return the least numbers that are nowhere less than these, nor than what a step asks for.

    A step from a state by a letter asks for rise(state, letter) more than the number it leads to.
    """
    numbers = list(numbers)
    changed = True
    while changed:
        changed = False
        for state, leading in enumerate(steps):
            for sign, reached in leading:
                if numbers[state] < numbers[reached] + rise(state, sign):
                    numbers[state] = numbers[reached] + rise(state, sign)
                    changed = True
    return numbers


def only_useful(letters, machine, numbers):
    """Return the numbers with None at the states that are not useful."""
    return [number if useful else None for useful, number in zip(useful_states(letters, machine), numbers)]


def least_heights(letters, machine, staying):
    """Return for each useful state the greatest number of letters that leave states on a way from it."""
    steps = useful_steps(letters, machine)
    heights = raised(steps, [0] * len(steps), lambda state, sign: 0 if sign in staying[state] else 1)
    return only_useful(letters, machine, heights)


def least_rings(letters, machine, staying):
    """Return for each useful state the greatest number of rings on a way from it."""
    steps = useful_steps(letters, machine)
    own = [len(signs) for signs in staying]
    rings = raised(steps, own, lambda state, sign: 0 if sign in staying[state] else own[state])
    return only_useful(letters, machine, rings)


def growth_paper(letters, machine):
    """Return the paper of growth, or None if the growth is "more"."""
    staying = letters_staying(letters, machine)
    if max([len(signs) for signs in staying]) > 1:
        return None
    turns = [signs if signs else None for signs in staying]
    heights = least_heights(letters, machine, staying)
    rings = least_rings(letters, machine, staying)
    return (turns, heights, rings, chain_of(letters, machine, turns, rings))


def chain_of(letters, machine, turns, rings):
    """Return the chain of the paper with these letters that stay and these numbers of rings."""
    chain = []
    state = 0
    for number in range(rings[0] or 0, 0, -1):
        word = first_word_to_ring(letters, machine, state, turns, rings, number)
        state = run_from(letters, machine, state, word)
        chain.append((word, first_word_back(letters, machine, state, letters.index(turns[state]))))
    return chain


def first_word_to_ring(letters, machine, state, turns, rings, number):
    """Return the first word that leads from the state to one on a ring with this number in rings."""
    return first_word_between(
        letters, machine, state, lambda reached: turns[reached] is not None and rings[reached] == number
    )


def is_growth_paper(letters, machine, told, paper):
    """Tell whether the paper is right for the answer, or beside "more" whether the answer is right."""
    if told[0] == "more":
        return is_more(letters, machine, told)
    turns, heights, rings, chain = paper
    many = len(machine[0])
    if [len(turns), len(heights), len(rings)] != [many, many, many]:
        return False
    if not are_in_place(letters, machine, turns, heights, rings):
        return False
    if not do_fall(letters, machine, turns, heights, rings) or not is_chain(letters, machine, chain):
        return False
    if len(chain) != (rings[0] or 0):
        return False
    if told[0] == "power":
        return told[1] == len(chain) and told[1] >= 1
    return len(chain) == 0 and told[1] == upto(letters, machine, many)


def is_more(letters, machine, told):
    """Tell whether the answer "more" is right."""
    _, begin, state, first, second, end = told
    if run(letters, machine, begin) != state or first == second or len(first) != len(second):
        return False
    if run_from(letters, machine, state, first) != state or run_from(letters, machine, state, second) != state:
        return False
    return machine[1][run_from(letters, machine, state, end)]


def are_in_place(letters, machine, turns, heights, rings):
    """Tell whether the elements of the three lists are such as may stand at their states."""
    useful = useful_states(letters, machine)
    steps = useful_steps(letters, machine)
    for state, told in enumerate(zip(turns, heights, rings)):
        turn, height, ring = told
        if not useful[state]:
            if told != (None, None, None):
                return False
        elif height is None or ring is None or height < 0 or ring < 0:
            return False
        elif turn is not None and turn not in [sign for sign, _ in steps[state]]:
            return False
    return True


def do_fall(letters, machine, turns, heights, rings):
    """Tell whether no height and no number in rings rises by a letter, and whether they fall where they have to."""
    for state, leading in enumerate(useful_steps(letters, machine)):
        around = turns_back(letters, machine, turns, state)
        if around and rings[state] < 1:
            return False
        for sign, reached in leading:
            fall = 0 if sign == turns[state] else 1
            if heights[state] < heights[reached] + fall:
                return False
            if rings[state] < rings[reached] + (fall if around else 0):
                return False
    return True


def turns_back(letters, machine, turns, state):
    """Tell whether going on from the state by the letters in turns leads back to it."""
    reached = state
    for _ in range(len(turns)):
        if turns[reached] is None:
            return False
        reached = run_from(letters, machine, reached, turns[reached])
        if reached == state:
            return True
    return False


def is_chain(letters, machine, chain):
    """Tell whether each word of the chain leads to a useful state, its round back there, and each to a ring of its own.

    Two states are on one ring if words lead from each of them to the other one.
    """
    useful = useful_states(letters, machine)
    state = 0
    ahead = []
    for word, turn in chain:
        state = run_from(letters, machine, state, word)
        if not useful[state] or turn == "" or run_from(letters, machine, state, turn) != state:
            return False
        # The chain goes from each state to the next one, so that only the way back is asked for.
        if any([passed in reached_from(letters, machine, state) for passed in ahead]):
            return False
        ahead.append(state)
    return True
