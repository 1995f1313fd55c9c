"""What several tests use: words, rules and machines that are made up, and slow answers to compare with."""

import copy
import itertools
import random


def all_words(letters, most):
    """All words of at most so many signs, in order."""
    return ["".join(signs) for length in range(most + 1) for signs in itertools.product(letters, repeat=length)]


def taken(letters, machine, word):
    """Whether the machine takes the word, straight from point 8."""
    state = 0
    for sign in word:
        state = machine[0][state][letters.index(sign)]
    return machine[1][state]


def taken_words(letters, machine, most):
    return [word for word in all_words(letters, most) if taken(letters, machine, word)]


def cycle(length, *ends, letters="a"):
    """The machine that counts signs, as often as its number of states, and ends at these counts."""
    return ([[(k + 1) % length] * len(letters) for k in range(length)], [k in ends for k in range(length)])


def counter(signs):
    """The machine over the letters a of the one word with so many signs."""
    return ([[min(k + 1, signs + 1)] for k in range(signs + 2)], [k == signs for k in range(signs + 2)])


def tail_and_loop(tail, loop, good):
    """Over the letters abc: by a along a tail and around a loop; the sign good is taken at two places, and ends.

    The places are the last one of the tail and the first one of the loop.
    """
    last = tail + loop
    table = []
    for state in range(last):
        by_good = last if state in (tail - 1, tail) else last + 1
        table.append([state + 1 if state < last - 1 else tail]
                     + [by_good if sign == good else last + 1 for sign in "bc"])
    return table + [[last + 1] * 3] * 2, [False] * last + [True, False]


def some_machine(rng, letters, most):
    many = rng.randint(1, most)
    return ([[rng.randrange(many) for _ in letters] for _ in range(many)], [rng.random() < 0.4 for _ in range(many)])


def some_machines(seed, number, most=5, letters=("a", "ab", "ba", "abc")):
    rng = random.Random(seed)
    for _ in range(number):
        chosen = rng.choice(letters)
        yield chosen, some_machine(rng, chosen, most)


def some_rule(rng, letters, depth):
    kinds = "none empty one one one row row either either both not times times".split() if depth else ["one", "empty"]
    kind = rng.choice(kinds)
    if kind == "one":
        signs = rng.sample(letters, rng.randint(1, len(letters)))
        return ("one", "".join(sign for sign in letters if sign in signs))
    if kind in ("row", "either", "both"):
        return (kind, [some_rule(rng, letters, depth - 1) for _ in range(rng.choice([1, 2, 2, 3]))])
    if kind == "not":
        return ("not", some_rule(rng, letters, depth - 1))
    if kind == "times":
        low = rng.choice([0, 0, 1, 1, 2, 3])
        return ("times", some_rule(rng, letters, depth - 1), low, rng.choice([None, None, low, low + 1, low + 2]))
    return (kind,)


def some_rules(seed, number, letters=("a", "ab", "ba", "abc"), depth=3):
    rng = random.Random(seed)
    for _ in range(number):
        chosen = rng.choice(letters)
        yield chosen, some_rule(rng, chosen, rng.randint(0, depth))


def some_plain_rule(rng, letters, depth):
    """A rule without both and not."""
    kinds = "none empty one one one one row row either either times times".split() if depth else ["one", "one", "empty"]
    kind = rng.choice(kinds)
    if kind in ("row", "either"):
        return (kind, [some_plain_rule(rng, letters, depth - 1) for _ in range(rng.choice([1, 2, 2, 3]))])
    if kind == "times":
        low = rng.choice([0, 0, 1, 1, 2, 3])
        high = rng.choice([None, None, low, low + 1, low + 2])
        return ("times", some_plain_rule(rng, letters, depth - 1), low, high)
    if kind == "one":
        signs = rng.sample(letters, rng.randint(1, len(letters)))
        return ("one", "".join(sign for sign in letters if sign in signs))
    return (kind,)


def some_plain_rules(seed, number, letters=("a", "ab", "ba", "abc"), depth=3):
    rng = random.Random(seed)
    for _ in range(number):
        chosen = rng.choice(letters)
        yield chosen, some_plain_rule(rng, chosen, rng.randint(0, depth))


def some_choices(seed, number, letters="ab"):
    """Rules that choose between rows which often begin alike."""
    rng = random.Random(seed)
    for _ in range(number):
        rows = []
        for _ in range(rng.randint(2, 4)):
            parts = [("one", rng.choice([letters[0], letters[0], letters[1], letters])) for _ in range(rng.randint(1, 5))]
            at = rng.randrange(len(parts))
            if rng.random() < 0.5:
                parts[at] = ("times", parts[at], rng.choice([0, 1]), rng.choice([None, 2]))
            rows.append(("row", parts))
        rule = ("either", rows)
        yield letters, rule if rng.random() < 0.6 else ("times", rule, 0, None)


def in_row_of(sign, many):
    """The rule of the one word with so many times this sign, from 1 to 48."""
    one = ("one", sign)
    parts = [("times", one, 8, 8)] * (many // 8)
    if many % 8:
        parts.append(("times", one, many % 8, many % 8))
    return ("row", parts)


def belongs(rule, word):
    """Whether the word belongs to the rule, straight from point 2."""
    kind = rule[0]
    if kind == "none":
        return False
    if kind == "empty":
        return word == ""
    if kind == "one":
        return len(word) == 1 and word in rule[1]
    if kind == "row":
        return belongs_to_row(rule[1], word)
    if kind == "either":
        return any(belongs(inner, word) for inner in rule[1])
    if kind == "both":
        return all(belongs(inner, word) for inner in rule[1])
    if kind == "not":
        return not belongs(rule[1], word)
    _, inner, low, high = rule
    # More parts than low and the signs of the word would be without signs, and can be left out.
    most = low + len(word) if high is None else high
    return any(belongs_to_row([inner] * many, word) for many in range(low, most + 1))


def belongs_to_row(rules, word):
    if not rules:
        return word == ""
    return any(
        belongs(rules[0], word[:cut]) and belongs_to_row(rules[1:], word[cut:]) for cut in range(len(word) + 1)
    )


def all_ways(rule, word):
    """All ways of the rule for the word, in their order, straight from points 27 and 29."""
    kind = rule[0]
    if kind == "none":
        return []
    if kind == "empty":
        return [()] if word == "" else []
    if kind == "one":
        return [word] if len(word) == 1 and word in rule[1] else []
    if kind == "not":
        return [] if belongs(rule[1], word) else [()]
    if kind == "either":
        return [(place, way) for place, inner in enumerate(rule[1]) for way in all_ways(inner, word)]
    if kind == "both":
        return [list(chosen) for chosen in itertools.product(*[all_ways(inner, word) for inner in rule[1]])]
    if kind == "row":
        return ways_of_parts([(inner, True) for inner in rule[1]], word)
    _, inner, low, high = rule
    found = []
    for many in range(low, (low + len(word) if high is None else high) + 1):
        found += ways_of_parts([(inner, k < low) for k in range(many)], word)
    return sorted(found, key=lambda way: order_of_pairs(inner, way))


def ways_of_parts(parts, word):
    """The lists of pairs for the parts, which are told with whether they may be without signs."""
    if not parts:
        return [[]] if word == "" else []
    (rule, may_be_empty), *others = parts
    found = []
    for cut in range(len(word), -1 if may_be_empty else 0, -1):
        for way in all_ways(rule, word[:cut]):
            found += [[(word[:cut], way)] + rest for rest in ways_of_parts(others, word[cut:])]
    return found


def order_of_pairs(rule, way):
    return [(-len(part), all_ways(rule, part).index(inner)) for part, inner in way]


def met_pairs(letters, first, second, pair=(0, 0)):
    """The pairs of states that are met from a pair, ascending."""
    pairs = [pair]
    for p, q in pairs:
        for at in range(len(letters)):
            reached = (first[0][p][at], second[0][q][at])
            if reached not in pairs:
                pairs.append(reached)
    return sorted(pairs)


def lists_in(value):
    """All lists that stand in the value, itself among them."""
    found = [value] if isinstance(value, list) else []
    if isinstance(value, (list, tuple)):
        for inner in value:
            found += lists_in(inner)
    return found


def check_new(test, call, *values, **named):
    """Check that the call modifies no argument, and that its answer shares no list, with them or within itself."""
    kept = copy.deepcopy((values, named))
    answer = call(*values, **named)
    test.assertEqual((values, named), kept)
    marks = [id(found) for found in lists_in(list(values) + list(named.values()) + [answer])]
    own = [id(found) for found in lists_in(answer)]
    test.assertEqual(len(own), len(set(own)), "a list stands twice in the answer")
    test.assertTrue(all(marks.count(mark) == 1 for mark in own), "a list of the answer is one that was handed in")
    again = call(*copy.deepcopy(values), **copy.deepcopy(named))
    test.assertEqual(answer, again)
    return answer
