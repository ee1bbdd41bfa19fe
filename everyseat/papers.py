"""Papers: lists of branches with rows, right or not, and what can be told by them."""

from everyseat.branches import every_branch, row_by_rows, seat_by_rows
from everyseat.errors import NoPaper
from everyseat.rules import need_rule
from everyseat.seats import all_rows, steps_both_ways
from everyseat.trees import need_place, tied_to


def rows_for(paper, branch):
    """All rows that a paper has for a branch."""
    return [row for other, row in paper if other == branch]


def paper_shows(tree, rule, paper):
    """Whether a paper has just the branches, each once, and each row as it is told from the rows of the others."""
    need_rule(rule)
    if sorted([branch for branch, row in paper]) != every_branch(tree):
        return False
    rows = {branch: row for branch, row in paper}
    # From behind, each row is told from rows that were found right: wrong ones might be too short, or make numbers
    # grow too long.
    for branch in reversed(steps_both_ways(tree)):
        if rows[branch] != row_by_rows(tree, rule, branch, rows):
            return False
    return True


def seat_by_paper(tree, rule, paper, place):
    """What the rule tells with this place as the root, by the rows that stand in a paper."""
    need_rule(rule)
    need_place(tree, place)
    rows = {}
    for near in tied_to(tree, place):
        found = rows_for(paper, (place, near))
        if len(found) != 1 or len(found[0]) != len(rule[0]):
            raise NoPaper("a branch seen from the place does not stand once, with a whole row, in the paper")
        rows[(place, near)] = found[0]
    return seat_by_rows(tree, rule, place, rows)


def first_wrong(tree, rule, paper):
    """The first branch that a paper does not have just once with its row; None where all are right."""
    for branch, row in all_rows(tree, rule):
        if rows_for(paper, branch) != [row]:
            return branch
    return None
