"""Sets told: the best set and the best piece, the farthest place and the ends of a longest way."""

from everyseat.branches import seat_worth
from everyseat.named import rule_named
from everyseat.trees import lengths_from, need_lengths, need_place, steps_to_others, tied_to


def best_sum(tree, worths):
    """The greatest sum of a set no two of whose places are tied, had the tree these worths."""
    return seat_worth((worths, tree[1]), rule_named("best"), 0)


def settled(worths, places):
    """The worths with 0 for these places: a set neither gains nor needs them any more."""
    return [0 if place in places else worth for place, worth in enumerate(worths)]


def best_set(tree):
    """Of the sets no two of whose places are tied, with the greatest sum of worths, the first as a list."""
    left = list(tree[0])
    missing = best_sum(tree, left)
    chosen = []
    for place, worth in enumerate(tree[0]):
        # A list stands ahead of all that go on from it.
        if missing == 0:
            break
        near = tied_to(tree, place)
        left_with_it = settled(left, [place] + near)
        may_stand = not any([other in chosen for other in near])
        if may_stand and worth + best_sum(tree, left_with_it) == missing:
            chosen.append(place)
            missing -= worth
            left = left_with_it
        else:
            left = settled(left, [place])
    return chosen


def piece_sums(tree, steps):
    """The greatest sum of a piece at each place, among what hangs there seen from where the steps come from."""
    sums = list(tree[0])
    for before, here in reversed(steps):
        sums[before] += max(0, sums[here])
    return sums


def largest_piece(place, steps, sums):
    """The best piece of a place that holds all its other ones: it leaves out just what would lessen it."""
    held = {place}
    for before, here in steps:
        if before in held and sums[here] >= 0:
            held.add(here)
    return sorted(held)


def hangs_together(tree, places):
    """Whether some places of a tree hang together: if so, with one tie fewer than places."""
    ties = [(a, b) for a, b, length in tree[1] if a in places and b in places]
    return len(ties) == len(places) - 1


def best_piece(tree, place):
    """Of the sets with this place that hang together, with the greatest sum of worths, the first as a list."""
    need_place(tree, place)
    steps = steps_to_others(tree, place)
    sums = piece_sums(tree, steps)
    piece = []
    # The first list takes every place that a best piece may have, up to where it is a best piece itself.
    for other in largest_piece(place, steps, sums):
        piece.append(other)
        whole = sum([tree[0][one] for one in piece]) == sums[place]
        if whole and place in piece and hangs_together(tree, piece):
            break
    return piece


def farthest_place(tree, place):
    """The least of the places to which the way from this one is longest."""
    need_place(tree, place)
    need_lengths(tree)
    lengths = lengths_from(tree, place)
    return lengths.index(max(lengths))


def longest_ends(tree):
    """The first two ends (a, b) of a longest way."""
    need_lengths(tree)
    farthest = [max(lengths_from(tree, place)) for place in range(len(tree[0]))]
    # No end of a longest way is below the first one, so that the other end is not below it either.
    one = farthest.index(max(farthest))
    return one, farthest_place(tree, one)
