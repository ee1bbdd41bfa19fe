"""Branches: what the rule tells of one branch, and of one place as the root."""

from everyseat.errors import NoPlace
from everyseat.rules import need_rule, sum_at
from everyseat.trees import need_place, steps_from, steps_to_others, tie_lengths, tied_to

# Only the sums of over may ask for the tie: to all others any number can be handed.
NO_TIE = 0


def every_branch(tree):
    """All branches (a, b), sorted."""
    return sorted(tie_lengths(tree))


def row_begun(rule, own):
    """The row that a place begins with."""
    return [sum_at(part, own, NO_TIE, [], []) for part in rule[0]]


def row_over(rule, own, tie, more):
    """The row of a branch, of the row that its place has for the other one."""
    return [sum_at(part, own, tie, [], more) for part in rule[1]]


def row_joined(rule, own, so, more):
    """The row so far with one more branch's row joined."""
    return [sum_at(part, own, NO_TIE, so, more) for part in rule[2]]


def place_row(tree, rule, place, before, rows):
    """The row that a place has with all its neighbours but before; with all of them where before is None."""
    own = tree[0][place]
    row = row_begun(rule, own)
    for near in tied_to(tree, place):
        if near != before:
            row = row_joined(rule, own, row, rows[(place, near)])
    return row


def row_by_rows(tree, rule, branch, rows):
    """The row of a branch by the rows of the branches that go on from it."""
    before, place = branch
    more = place_row(tree, rule, place, before, rows)
    return row_over(rule, tree[0][place], tie_lengths(tree)[branch], more)


def rows_along(tree, rule, steps):
    """The rows of the branches that these steps are; each branch stands ahead of those that go on from it."""
    rows = {}
    for branch in reversed(steps):
        rows[branch] = row_by_rows(tree, rule, branch, rows)
    return rows


def seat_by_rows(tree, rule, place, rows):
    """What the rule tells with this place as the root, by the rows of the branches seen from it."""
    row = place_row(tree, rule, place, None, rows)
    return sum_at(rule[3], tree[0][place], NO_TIE, row, [])


def branch_row(tree, rule, branch):
    """The row of one branch."""
    need_rule(rule)
    if branch not in tie_lengths(tree):
        raise NoPlace("the branch is no two tied places")
    before, place = branch
    return rows_along(tree, rule, steps_from(tree, before, place))[branch]


def seat_worth(tree, rule, place):
    """What the rule tells with this place as the root."""
    need_rule(rule)
    need_place(tree, place)
    return seat_by_rows(tree, rule, place, rows_along(tree, rule, steps_to_others(tree, place)))
