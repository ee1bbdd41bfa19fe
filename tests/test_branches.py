"""Points 9, 10 and 11, with 2, 3 and 4: branches, their rows and the seats' worths."""

import copy
import itertools
import unittest

from everyseat.branches import branch_row, every_branch, seat_worth
from everyseat.trees import turned_tree, way_between
from tests.helper import (
    EXCHANGED, FAR, FARTHEST, FIGURES, MIXED, MORE0, OWN, RULES, SO0, TIE, WAYS, SeatCase, all_trees,
    branch_row_by_hand, large_trees, number, path_tree, seat_by_hand, star_tree,
)

STAR = ([4, 1, 2, 3], [(0, 1, 0), (0, 2, 0), (0, 3, 0)])
# 3 - 1 - 0 - 2, and 4 at 1
FORK = ([1, 2, 3, 4, 5], [(0, 1, 10), (0, 2, 20), (1, 3, 30), (1, 4, 40)])


class EveryBranch(SeatCase):
    def test_two_for_each_tie_sorted(self):
        told = [(0, 1), (0, 2), (1, 0), (1, 3), (1, 4), (2, 0), (3, 1), (4, 1)]
        self.tells(told, every_branch, FORK)

    def test_none_of_one_place_alone(self):
        self.tells([], every_branch, ([9], []))

    def test_sorted_by_number(self):
        pairs = [(a, b) for a, b, _ in path_tree(40)[1]]
        told = sorted(pairs + [(b, a) for a, b in pairs])
        self.assertEqual(len(told), 78)
        self.tells(told, every_branch, path_tree(40))

    def test_of_every_small_tree(self):
        for tree in all_trees(5):
            places = range(len(tree[0]))
            tied = [{a, b} for a, b, _ in tree[1]]
            told = [pair for pair in itertools.product(places, places) if set(pair) in tied]
            self.tells(told, every_branch, tree)


class RowsOfBranches(SeatCase):
    def test_neighbours_are_joined_rising(self):
        self.tells([423], branch_row, STAR, FIGURES, (1, 0))
        self.tells([413], branch_row, STAR, FIGURES, (2, 0))
        self.tells([412], branch_row, STAR, FIGURES, (3, 0))
        self.tells([2], branch_row, STAR, FIGURES, (0, 2))

    def test_neighbours_below_and_above_are_joined_rising(self):
        tree = ([1, 2, 9, 3, 4], [(0, 2, 0), (1, 2, 0), (2, 3, 0), (2, 4, 0)])
        self.tells([9134], branch_row, tree, FIGURES, (1, 2))
        self.tells([9123], branch_row, tree, FIGURES, (4, 2))

    def test_a_branch_holds_its_tie_and_all_behind_it(self):
        self.tells([20, 1], branch_row, FORK, WAYS, (0, 2))
        self.tells([10 + 40 + 50, 3], branch_row, FORK, WAYS, (0, 1))
        self.tells([30 + 40 + 60 + 70, 4], branch_row, FORK, WAYS, (3, 1))
        self.tells([10 + 30, 2], branch_row, FORK, WAYS, (1, 0))

    def test_own_is_the_worth_of_the_place_seen(self):
        rule = ([OWN], [("plus", ("times", MORE0, number(100)), OWN)], [("plus", SO0, MORE0)], SO0)
        tree = ([5, 7], [(0, 1, 3)])
        self.tells([707], branch_row, tree, rule, (0, 1))
        self.tells([505], branch_row, tree, rule, (1, 0))

    def test_own_is_at_hand_in_join(self):
        rule = ([number(0)], [number(1)], [("plus", SO0, ("times", OWN, MORE0))], SO0)
        self.tells([1], branch_row, FORK, rule, (1, 0))
        self.tells(2 + 2 + 2, seat_worth, FORK, rule, 1)

    def test_all_sums_of_a_list_are_reckoned_from_the_same_numbers(self):
        tree = ([5, 6, 7], [(0, 1, 3), (0, 2, 4)])
        # 0 for 1: [1, 5], the branch (0, 2): [7 + 4, 1], joined: [5 + 11, 1 - 1]; over: [0 + 3, 16]
        self.tells([11, 1], branch_row, tree, EXCHANGED, (0, 2))
        self.tells([3, 16], branch_row, tree, EXCHANGED, (1, 0))
        # 1 with 0 joined: [6 + 3, 1 - 16]
        self.tells(9015, seat_worth, tree, EXCHANGED, 1)

    def test_every_branch_of_every_small_tree(self):
        for tree in all_trees(5):
            for (a, b), rule in itertools.product(every_branch(tree), RULES):
                self.tells(branch_row_by_hand(tree, rule, a, b), branch_row, tree, rule, (a, b))

    def test_branches_of_large_trees(self):
        for tree in large_trees():
            for (a, b), rule in itertools.product(every_branch(tree)[::7], RULES):
                self.same(branch_row(tree, rule, (a, b)), branch_row_by_hand(tree, rule, a, b))

    def test_only_what_the_branch_holds_is_reckoned(self):
        # Squared tie by tie, the whole path's number would not come to an end; this branch holds three places.
        rule = ([number(3)], [("times", MORE0, MORE0)], [("times", SO0, MORE0)], SO0)
        # 39: 3, 9; 38: 27, 729; 37: 3 * 729, squared
        self.tells([2187 ** 2], branch_row, path_tree(40), rule, (36, 37))

    def test_what_is_no_two_tied_places_is_refused(self):
        for branch in ((0, 0), (1, 1), (0, 3), (3, 0), (2, 1), (3, 4), (4, 3), (-1, 0), (0, -1), (-1, -2), (-5, 1),
                       (0, 5), (5, 0), (4, 5), (5, 6), (0, FAR), (FAR, 0), (-FAR, 1), (1, -FAR), (FAR, FAR)):
            for rule in (FIGURES, WAYS):
                self.refuses("NoPlace", branch_row, FORK, rule, branch)
        for branch in ((0, 0), (0, 1), (1, 0), (-1, 0), (0, -1)):
            self.refuses("NoPlace", branch_row, ([9], []), WAYS, branch)


class WorthsOfSeats(SeatCase):
    def test_all_neighbours_are_joined_rising(self):
        self.tells(4123, seat_worth, STAR, FIGURES, 0)
        self.tells(10 + 423, seat_worth, STAR, FIGURES, 1)
        self.tells(20 + 413, seat_worth, STAR, FIGURES, 2)
        self.tells(30 + 412, seat_worth, STAR, FIGURES, 3)
        tree = ([1, 2, 9, 3, 4], [(0, 2, 0), (1, 2, 0), (2, 3, 0), (2, 4, 0)])
        self.tells(91234, seat_worth, tree, FIGURES, 2)

    def test_one_place_alone_is_begun(self):
        self.tells(8, seat_worth, ([8], []), FIGURES, 0)
        self.tells(-FAR, seat_worth, ([-FAR], []), FIGURES, 0)
        rule = ([number(3), ("times", OWN, OWN)], [OWN, TIE], [MORE0, SO0], ("less", ("so", 1), ("plus", SO0, OWN)))
        self.tells(64 - (3 + 8), seat_worth, ([8], []), rule, 0)

    def test_told_has_the_seats_own_worth(self):
        rule = ([number(0)], [MORE0], [SO0], OWN)
        for place in range(5):
            self.tells(place + 1, seat_worth, FORK, rule, place)

    def test_rules_with_plain_words(self):
        for place in range(5):
            lengths = [way_between(FORK, place, other)[1] for other in range(5)]
            self.tells(sum(lengths), seat_worth, FORK, WAYS, place)
            self.tells(max(lengths), seat_worth, FORK, FARTHEST, place)

    def test_the_plain_words_in_forty_places(self):
        worths, ties = star_tree(40, 17)
        for tree in ((worths, [(a, b, abs(length)) for a, b, length in ties]), path_tree(40)[:1] + (
                [(a, b, 10 ** 20 + a) for a, b, _ in path_tree(40)[1]],)):
            for place in (0, 5, 17, 39):
                lengths = [way_between(tree, place, other)[1] for other in range(40)]
                self.tells(sum(lengths), seat_worth, tree, WAYS, place)
                self.tells(max(lengths), seat_worth, tree, FARTHEST, place)

    def test_every_seat_of_every_small_tree(self):
        for tree in all_trees(5):
            for place, rule in itertools.product(range(len(tree[0])), RULES):
                self.tells(seat_by_hand(tree, rule, place), seat_worth, tree, rule, place)

    def test_seats_of_large_trees(self):
        for tree in large_trees():
            for place, rule in itertools.product(range(0, len(tree[0]), 5), RULES):
                self.same(seat_worth(tree, rule, place), seat_by_hand(tree, rule, place))

    def test_a_turned_tree_has_the_same_seats_where_no_order_matters(self):
        order = [3, 0, 4, 2, 1]
        turned = turned_tree(FORK, order)
        for new, old in enumerate(order):
            self.same(seat_worth(turned, WAYS, new), seat_worth(FORK, WAYS, old))

    def test_a_seat_that_is_no_place_is_refused(self):
        for rule in (FIGURES, MIXED):
            for place in (-1, -5, -6, -FAR, 5, 6, FAR):
                self.refuses("NoPlace", seat_worth, FORK, rule, place)
            for place in (-1, 1, FAR):
                self.refuses("NoPlace", seat_worth, ([9], []), rule, place)


class NothingIsKept(SeatCase):
    def test_a_tree_and_a_rule_that_were_changed_are_told_as_they_are_now(self):
        tree, rule = copy.deepcopy((FORK, FIGURES))
        first = branch_row(tree, rule, (0, 1))
        self.same((first, seat_worth(tree, rule, 1)), ([245], 3345))
        tree[0][4] = 70
        rule[0][0] = ("plus", OWN, number(1))
        self.same((branch_row(tree, rule, (0, 1)), seat_worth(tree, rule, 1)), ([421], 5521))
        self.same(first, [245])


if __name__ == "__main__":
    unittest.main()
