"""Trees: places with worths, and the ties between them with lengths."""

from everyseat.errors import NoLength, NoOrder, NoPlace, NoTree


def tree_of(worths, ties):
    """The tree of these worths and of these ties in any order."""
    tree = (list(worths), sorted(ties))
    if not is_tree(tree):
        raise NoTree("these worths and ties make no tree")
    return tree


def copied_tree(tree):
    """The same tree in lists of its own."""
    worths, ties = tree
    return list(worths), list(ties)


def is_tree(tree):
    """Whether each tie is well told and each place can be come to."""
    worths, ties = tree
    if not worths or len(ties) != len(worths) - 1:
        return False
    if not all([0 <= a < b < len(worths) for a, b, length in ties]):
        return False
    # With so few ties none can be spared: one told twice would leave a place that is not come to.
    return len(steps_from(tree, None, 0)) == len(worths)


def need_place(tree, place):
    """Refuses a number that is no place."""
    if not 0 <= place < len(tree[0]):
        raise NoPlace("this number is no place of the tree")


def need_lengths(tree):
    """Refuses a tree with a length below 0."""
    if any([length < 0 for a, b, length in tree[1]]):
        raise NoLength("the tree has a length below 0")


def tied_to(tree, place):
    """The neighbours of a place, rising."""
    need_place(tree, place)
    below = [a for a, b, length in tree[1] if b == place]
    above = [b for a, b, length in tree[1] if a == place]
    return sorted(below + above)


def tie_lengths(tree):
    """The length of each tie under both of its branches, (a, b) and (b, a)."""
    lengths = {}
    for a, b, length in tree[1]:
        lengths[(a, b)] = length
        lengths[(b, a)] = length
    return lengths


def steps_from(tree, before, start):
    """The steps (a, b) by which the places are come to that hang at start seen from before.

    The first one is (before, start), and each step stands behind the one that comes to its a.
    Where before is None nothing is left out: these are the steps by which all places are come to.
    """
    reached = {before, start}
    steps = [(before, start)]
    at = 0
    while at < len(steps):
        here = steps[at][1]
        for near in tied_to(tree, here):
            if near not in reached:
                reached.add(near)
                steps.append((here, near))
        at += 1
    return steps


def steps_to_others(tree, start):
    """The steps by which all other places are come to from start; each is a branch."""
    # The first step comes from nowhere: it is the start itself and no branch.
    return steps_from(tree, None, start)[1:]


def lengths_from(tree, start):
    """The length of the way from start to each place, place by place."""
    ties = tie_lengths(tree)
    lengths = [0 for worth in tree[0]]
    for step in steps_to_others(tree, start):
        before, here = step
        lengths[here] = lengths[before] + ties[step]
    return lengths


def way_between(tree, one, other):
    """The way from one place to another one: its places and its length."""
    need_place(tree, one)
    need_place(tree, other)
    come_from = {b: a for a, b in steps_to_others(tree, one)}
    places = [other]
    while places[-1] != one:
        places.append(come_from[places[-1]])
    places.reverse()
    lengths = tie_lengths(tree)
    return places, sum([lengths[step] for step in zip(places, places[1:])])


def turned_tree(tree, order):
    """The tree whose place k is the place that stands at k in the order."""
    worths, ties = tree
    if sorted(order) != list(range(len(worths))):
        raise NoOrder("the order does not have each place once")
    new_place = {old: new for new, old in enumerate(order)}
    turned = []
    for a, b, length in ties:
        low, high = sorted([new_place[a], new_place[b]])
        turned.append((low, high, length))
    return tree_of([worths[old] for old in order], turned)
