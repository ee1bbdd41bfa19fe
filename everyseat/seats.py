"""Seats: the rows of all branches, and the worths of all places as the root."""

from everyseat.branches import every_branch, rows_along, seat_by_rows
from everyseat.rules import need_rule
from everyseat.trees import steps_to_others


def steps_both_ways(tree):
    """All branches, each ahead of those that go on from it."""
    away = steps_to_others(tree, 0)
    # A branch back to place 0 goes on to the one that is nearer to it, and off to branches away from it.
    back = [(b, a) for a, b in reversed(away)]
    return back + away


def all_rows(tree, rule):
    """The tuples (branch, row) of all branches, in the branches' order."""
    need_rule(rule)
    rows = rows_along(tree, rule, steps_both_ways(tree))
    return [(branch, rows[branch]) for branch in every_branch(tree)]


def all_seats(tree, rule):
    """What the rule tells with each place as the root, place by place."""
    need_rule(rule)
    rows = rows_along(tree, rule, steps_both_ways(tree))
    return [seat_by_rows(tree, rule, place, rows) for place in range(len(tree[0]))]


def places_worth(seats, worth):
    """The places whose seat has this worth, rising."""
    return [place for place, told in enumerate(seats) if told == worth]


def best_seats(tree, rule):
    """The places with the greatest seat's worth, rising."""
    seats = all_seats(tree, rule)
    return places_worth(seats, max(seats))


def least_seats(tree, rule):
    """The places with the least seat's worth, rising."""
    seats = all_seats(tree, rule)
    return places_worth(seats, min(seats))
