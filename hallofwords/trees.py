"""Trees, which show how a word belongs to a sheet."""

from hallofwords.charts import Chart
from hallofwords.errors import Ring, TooMany
from hallofwords.forests import Forest
from hallofwords.ways import cuts_of, is_no_pair, is_pair, is_place

MOST_TREES = 1000000000000000000


def is_in(letters, sheet, word):
    """Tell whether the word belongs to the sheet."""
    return Chart(sheet, word).has((0, 0, len(word)))


def check_count(number):
    """Raise TooMany if the number is too great."""
    if number > MOST_TREES:
        raise TooMany()


def count_trees(letters, sheet, word):
    """Return the number of the trees, None for endlessly many, or raise TooMany."""
    forest = Forest(sheet, word)
    many = forest.number_at(forest.top)
    if many is not None:
        check_count(many)
    return many


def is_tree(letters, sheet, word, tree):
    """Tell whether the value is a tree of the sheet for the word."""
    bodies = {name: body for name, body in sheet}
    waiting = [(("name", sheet[0][0]), 0, len(word), tree)]
    while waiting:
        rule, begin, end, value = waiting.pop()
        inner = trees_in(bodies, rule, word, begin, end, value)
        if inner is None:
            return False
        waiting.extend(inner)
    return True


def trees_in(bodies, rule, word, begin, end, value):
    """Return what has to be trees of which rules and pieces for the value to be one, or None if it is none.

    It is a list of tuples (rule, begin, end, value).
    """
    kind = rule[0]
    if kind == "empty":
        return [] if begin == end and is_no_pair(value) else None
    if kind == "one":
        return [] if isinstance(value, str) and value == word[begin:end] and value in list(rule[1]) else None
    if kind == "either":
        if not is_pair(value) or not is_place(value[0], rule[1]):
            return None
        return [(rule[1][value[0]], begin, end, value[1])]
    if kind == "name":
        if not is_pair(value) or not isinstance(value[0], str) or value[0] != rule[1]:
            return None
        return [(bodies[rule[1]], begin, end, value[1])]
    if not isinstance(value, list) or len(value) != len(rule[1]):
        return None
    cuts = cuts_of(word, begin, end, value)
    if cuts is None:
        return None
    return [(part, cuts[at], cuts[at + 1], value[at][1]) for at, part in enumerate(rule[1])]


def finite_forest(sheet, word):
    """Return the forest of the word, or raise Ring if there are endlessly many trees."""
    forest = Forest(sheet, word)
    if forest.number_at(forest.top) is None:
        raise Ring(told_spots(sheet, forest.endless_items())[-1][0])
    return forest


def told_spots(sheet, items):
    """Return the spots of items of names."""
    return [(sheet[number][0], begin, end) for number, begin, end in items]


def trees(letters, sheet, word, *, most=100):
    """Return the first trees, at most so many, in their order, or raise Ring or TooMany."""
    forest = finite_forest(sheet, word)
    return [forest.tree_with(place) for place in range(min(most, forest.number_at(forest.top)))]


def tree_at(letters, sheet, word, place):
    """Return the tree with this place, or None, or raise Ring or TooMany."""
    forest = finite_forest(sheet, word)
    return forest.tree_with(place) if place < forest.number_at(forest.top) else None


def place_of_tree(letters, sheet, word, tree):
    """Return the place of the tree, or None if the value is no tree, or raise Ring or TooMany."""
    forest = finite_forest(sheet, word)
    if not is_tree(letters, sheet, word, tree):
        return None
    place = forest.place_with(tree)
    check_count(place)
    return place


def endless_paper(letters, sheet, word):
    """Return the told endless paper, or None if there are not endlessly many trees."""
    forest = Forest(sheet, word)
    if forest.number_at(forest.top) is not None:
        return None
    return told_spots(sheet, forest.endless_items())


def is_endless_paper(letters, sheet, word, spots):
    """Tell whether the list is an endless paper."""
    forest = Forest(sheet, word)
    if len(spots) < 2 or spots[-1] not in spots[:-1] or spots[0] != (sheet[0][0], 0, len(word)):
        return False
    item = forest.top
    under = {}
    for spot in spots[1:]:
        if item not in under:
            items = forest.names_under(item)
            under[item] = {told: other for told, other in zip(told_spots(sheet, items), items)}
        if spot not in under[item]:
            return False
        item = under[item][spot]
    return True
