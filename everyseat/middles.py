"""Middles: the places from which the others are near, or that part the tree evenly, and how far places are."""

from everyseat.named import rule_named
from everyseat.seats import least_seats, places_worth
from everyseat.trees import lengths_from, need_lengths, steps_from, tied_to


def middle(tree):
    """The places from which the farthest place is least far, rising."""
    need_lengths(tree)
    return least_seats(tree, rule_named("farthest"))


def hub(tree):
    """The places from which the ways to all places are least long together, rising."""
    need_lengths(tree)
    return least_seats(tree, rule_named("sum"))


def greatest_part(tree, place):
    """How many places the greatest part has that hangs together when this place is taken out."""
    return max([len(steps_from(tree, place, near)) for near in tied_to(tree, place)], default=0)


def balance(tree):
    """The places without which the greatest part has the fewest places, rising."""
    greatest = [greatest_part(tree, place) for place in range(len(tree[0]))]
    return places_worth(greatest, min(greatest))


def far_table(tree):
    """How far each place is from each, a list for each place."""
    return [lengths_from(tree, place) for place in range(len(tree[0]))]
