"""Books: a tree and a rule, and the rows of all branches, kept while worths and ties change."""

from everyseat.branches import every_branch, row_by_rows, rows_along, seat_by_rows
from everyseat.errors import NoTie
from everyseat.rules import copied_rule, need_rule
from everyseat.seats import steps_both_ways
from everyseat.trees import copied_tree, need_place, steps_to_others, tie_lengths, tree_of


def branches_holding(tree, places):
    """The branches that have one of these places in their part, sorted."""
    # A branch has a place in its part where it leads back over a step away from there.
    return sorted({(b, a) for place in places for a, b in steps_to_others(tree, place)})


def need_move(tree, a, b, c, d):
    """Refuses to cut what is not tied, and to lay a tie from a place to itself."""
    for place in (a, b, c, d):
        need_place(tree, place)
    if (a, b) not in tie_lengths(tree):
        raise NoTie("there is no tie to cut")
    if c == d:
        raise NoTie("a place cannot be tied to itself")


def moved_tree(tree, a, b, c, d, length):
    """The tree with the tie of a and b cut and one of c and d laid instead."""
    worths, ties = tree
    cut = (min(a, b), max(a, b))
    left = [tie for tie in ties if tie[:2] != cut]
    return tree_of(worths, left + [(min(c, d), max(c, d), length)])


class Book:
    """Tells what a new one of the changed tree would, and reckons just the branches anew that hold a change."""

    def __init__(self, tree, rule):
        need_rule(rule)
        self.tree = copied_tree(tree)
        self.rule = copied_rule(rule)
        self.row_of = rows_along(self.tree, self.rule, steps_both_ways(self.tree))

    def tree_now(self):
        """The tree as it is."""
        return copied_tree(self.tree)

    def seat(self, place):
        """What the rule tells with this place as the root."""
        need_place(self.tree, place)
        return seat_by_rows(self.tree, self.rule, place, self.row_of)

    def seats(self):
        """What the rule tells with each place as the root, place by place."""
        return [self.seat(place) for place in range(len(self.tree[0]))]

    def rows(self):
        """The tuples (branch, row) of all branches, in the branches' order."""
        return [(branch, list(self.row_of[branch])) for branch in every_branch(self.tree)]

    def set_worth(self, place, worth):
        """Gives a place another worth; tells the branches that are reckoned anew."""
        need_place(self.tree, place)
        worths, ties = copied_tree(self.tree)
        worths[place] = worth
        return self.change_to((worths, ties), [place])

    def set_length(self, a, b, length):
        """Gives the tie of a and b another length; tells the branches that are reckoned anew."""
        # A branch with just one of two tied places in its part is one of their own two.
        return self.move(a, b, a, b, length)

    def move(self, a, b, c, d, length):
        """Cuts the tie of a and b and lays one of c and d; tells the branches that are reckoned anew."""
        need_move(self.tree, a, b, c, d)
        return self.change_to(moved_tree(self.tree, a, b, c, d, length), [a, b, c, d])

    def change_to(self, tree, places):
        """Takes a tree that is another one at these places; tells the branches that are reckoned anew."""
        anew = branches_holding(tree, places)
        row_of = {branch: self.row_of[branch] for branch in every_branch(tree) if branch not in anew}
        # From behind, the rows that a row is told from are there when it is its turn.
        for branch in reversed(steps_both_ways(tree)):
            if branch not in row_of:
                row_of[branch] = row_by_rows(tree, self.rule, branch, row_of)
        self.tree = tree
        self.row_of = row_of
        return anew
