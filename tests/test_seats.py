"""Points 12 and 13, with 2, 3, 4 and 8: all rows, all seats' worths, the best and the least seats."""

import copy
import itertools
import unittest

from everyseat.branches import branch_row, every_branch, seat_worth
from everyseat.seats import all_rows, all_seats, best_seats, least_seats
from tests.helper import (
    FAR, FARTHEST, FIGURES, MIXED, MORE0, NO_RULES, OWN, RULES, SO0, WAYS, SeatCase, all_trees, large_trees,
    large_trees_in_other_orders, number, path_tree, rows_by_hand, seat_by_hand, star_tree, with_numbers,
)

# 3 - 1 - 0 - 2, and 4 at 1
FORK = ([1, 2, 3, 4, 5], [(0, 1, 10), (0, 2, 20), (1, 3, 30), (1, 4, 40)])
ALONE = ([8], [])

OWN_WORTH = ([number(0)], [MORE0], [SO0], OWN)

# What the last neighbour has, squared: times among the sums, and the order of the neighbours matters.
LAST = ([OWN, number(1)],
        [("plus", ("times", ("more", 1), ("tie",)), MORE0), ("least", ("more", 1), number(9))],
        [("less", ("times", MORE0, number(2)), SO0), ("plus", ("so", 1), number(1))],
        ("less", ("times", SO0, SO0), ("so", 1)))


class AllRows(SeatCase):
    def test_in_the_branches_order(self):
        told = [((0, 1), [100, 3]), ((0, 2), [20, 1]), ((1, 0), [40, 2]), ((1, 3), [30, 1]), ((1, 4), [40, 1]),
                ((2, 0), [20 + 30 + 60 + 70, 4]), ((3, 1), [30 + 40 + 60 + 70, 4]), ((4, 1), [40 + 50 + 70 + 70, 4])]
        self.tells(told, all_rows, FORK, WAYS)

    def test_the_order_of_the_neighbours_matters(self):
        tree = ([1, 2, 9, 3, 4], [(0, 2, 0), (1, 2, 0), (2, 3, 0), (2, 4, 0)])
        told = [((0, 2), [9234]), ((1, 2), [9134]), ((2, 0), [1]), ((2, 1), [2]),
                ((2, 3), [3]), ((2, 4), [4]), ((3, 2), [9124]), ((4, 2), [9123])]
        self.tells(told, all_rows, tree, FIGURES)

    def test_none_of_one_place_alone(self):
        for rule in RULES:
            self.tells([], all_rows, ALONE, rule)

    def test_of_every_small_tree(self):
        for tree, rule in itertools.product(all_trees(5), RULES + [LAST]):
            self.tells(rows_by_hand(tree, rule), all_rows, tree, rule)

    def test_each_as_branch_row_tells_it_in_forty_places(self):
        for tree, rule in itertools.product(large_trees() + large_trees_in_other_orders(), RULES + [LAST]):
            told = [(branch, branch_row(tree, rule, branch)) for branch in every_branch(tree)]
            self.same(all_rows(tree, rule), told)

    def test_in_forty_places_by_hand(self):
        for tree in large_trees_in_other_orders():
            self.same(all_rows(tree, MIXED), rows_by_hand(tree, MIXED))

    def test_numbers_of_nearly_two_thousand_figures(self):
        rule = ([OWN], [MORE0], [("times", SO0, MORE0)], SO0)
        tree = with_numbers(star_tree(40, 5), [FAR], [1])
        self.same(all_seats(tree, rule), [FAR ** 40] * 40)
        self.same(all_rows(tree, rule)[0], ((0, 5), [FAR ** 39]))
        self.assertGreater(len(str(FAR ** 40)), 1100)


class AllSeats(SeatCase):
    def test_place_by_place(self):
        self.tells([10 + 20 + 40 + 50, 10 + 30 + 30 + 40, 20 + 30 + 60 + 70, 30 + 40 + 60 + 70, 40 + 50 + 70 + 70],
                   all_seats, FORK, WAYS)
        self.tells([50, 40, 70, 70, 70], all_seats, FORK, FARTHEST)
        self.tells([1, 2, 3, 4, 5], all_seats, FORK, OWN_WORTH)

    def test_the_order_of_the_neighbours_matters(self):
        self.tells([4123, 433, 433, 442], all_seats, ([4, 1, 2, 3], [(0, 1, 0), (0, 2, 0), (0, 3, 0)]), FIGURES)

    def test_one_place_alone_is_begun(self):
        self.tells([8], all_seats, ALONE, FIGURES)
        self.tells([64 - 1], all_seats, ALONE, LAST)
        self.tells([0], all_seats, ([-FAR], []), WAYS)

    def test_of_every_small_tree(self):
        for tree, rule in itertools.product(all_trees(5), RULES + [LAST]):
            told = [seat_by_hand(tree, rule, place) for place in range(len(tree[0]))]
            self.tells(told, all_seats, tree, rule)

    def test_each_as_seat_worth_tells_it_in_forty_places(self):
        for tree, rule in itertools.product(large_trees() + large_trees_in_other_orders(), RULES + [LAST]):
            told = [seat_worth(tree, rule, place) for place in range(len(tree[0]))]
            self.same(all_seats(tree, rule), told)

    def test_in_forty_places_by_hand(self):
        for tree in large_trees_in_other_orders():
            told = [seat_by_hand(tree, MIXED, place) for place in range(len(tree[0]))]
            self.same(all_seats(tree, MIXED), told)


class BestAndLeastSeats(SeatCase):
    def test_where_one_place_has_it(self):
        self.tells([4], best_seats, FORK, WAYS)
        self.tells([1], least_seats, FORK, WAYS)
        self.tells([1], least_seats, FORK, FARTHEST)

    def test_where_several_have_it(self):
        self.tells([2, 3, 4], best_seats, FORK, FARTHEST)
        tree = ([7, -7, 7, -7, 0], FORK[1])
        self.tells([0, 2], best_seats, tree, OWN_WORTH)
        self.tells([1, 3], least_seats, tree, OWN_WORTH)

    def test_where_all_have_it(self):
        for tree in (([3], []), ([-3] * 5, FORK[1]), ([0] * 40, path_tree(40)[1])):
            places = list(range(len(tree[0])))
            self.tells(places, best_seats, tree, OWN_WORTH)
            self.tells(places, least_seats, tree, OWN_WORTH)

    def test_below_nothing(self):
        tree = ([-5, -2, -9, -2, -9], FORK[1])
        self.tells([1, 3], best_seats, tree, OWN_WORTH)
        self.tells([2, 4], least_seats, tree, OWN_WORTH)

    def test_every_choice_of_worths(self):
        for worths in itertools.product((-1, 0, FAR), repeat=4):
            tree = (list(worths), [(0, 3, 1), (1, 3, 1), (2, 3, 1)])
            self.tells([at for at in range(4) if worths[at] == max(worths)], best_seats, tree, OWN_WORTH)
            self.tells([at for at in range(4) if worths[at] == min(worths)], least_seats, tree, OWN_WORTH)

    def test_in_forty_places(self):
        tree = with_numbers(path_tree(40), [1], [5])
        self.tells([0, 39], best_seats, tree, FARTHEST)
        self.tells([19, 20], least_seats, tree, FARTHEST)
        star = with_numbers(star_tree(40, 17), [1], [5])
        self.tells([place for place in range(40) if place != 17], best_seats, star, WAYS)
        self.tells([17], least_seats, star, WAYS)


class Refusals(SeatCase):
    def test_no_rule(self):
        for call, rule in itertools.product((all_rows, all_seats, best_seats, least_seats), NO_RULES):
            for tree in (FORK, ALONE):
                self.refuses("NoRule", call, tree, rule)


class NothingIsKept(SeatCase):
    def test_a_tree_and_a_rule_that_were_changed_are_told_as_they_are_now(self):
        tree, rule = copy.deepcopy((FORK, FIGURES))
        rows, seats = all_rows(tree, rule), all_seats(tree, rule)
        kept = copy.deepcopy((rows, seats))
        tree[0][4] = 70
        rule[0][0] = ("plus", OWN, number(1))
        self.same(all_rows(tree, rule), rows_by_hand(tree, rule))
        self.same(all_seats(tree, rule), [seat_by_hand(tree, rule, place) for place in range(5)])
        self.same((rows, seats), kept)
        rows[0][1].append(6)
        seats.clear()
        self.same(all_rows(FORK, FIGURES), kept[0])
        self.same(all_seats(FORK, FIGURES), kept[1])


if __name__ == "__main__":
    unittest.main()
