"""Points 5, 6 and 7, with 2 and 3: trees, ways and turned trees."""

import itertools
import unittest

from everyseat.trees import tied_to, tree_of, turned_tree, way_between
from tests.helper import (
    FAR, SeatCase, all_trees, large_trees, length_by_hand, neighbours_by_hand, path_tree,
)

# 2 - 0 - 3 - 1, and 4 at 0
BENT = ([5, -6, 7, 0, 8], [(0, 2, 10), (0, 3, -4), (0, 4, 1), (1, 3, 100)])


def no_places(many):
    return [-1, -2, -many, -many - 1, -FAR, many, many + 1, 2 * many, FAR]


class TreesMade(SeatCase):
    def test_ties_in_any_order(self):
        for ties in itertools.permutations(BENT[1]):
            self.tells(BENT, tree_of, list(BENT[0]), list(ties))

    def test_ties_are_sorted_by_number_and_not_by_length(self):
        ties = [(0, 1, 9), (0, 2, -9), (0, 10, -50), (1, 9, 4), (1, 11, 3), (2, 3, 8)]
        ties += [(3, 4, 7), (4, 5, 6), (5, 6, 5), (6, 7, 4), (7, 8, 3)]
        self.tells(([0] * 12, ties), tree_of, [0] * 12, sorted(ties, key=lambda tie: tie[2]))

    def test_one_place_alone(self):
        self.tells(([4], []), tree_of, [4], [])
        self.tells(([-FAR], []), tree_of, [-FAR], [])

    def test_worths_and_lengths_below_nothing_and_of_thirty_figures(self):
        worths, ties = [FAR, -FAR, 0], [(0, 1, -FAR), (1, 2, FAR)]
        self.assertEqual(len(str(FAR)), 30)
        self.tells((worths, ties), tree_of, worths, ties[::-1])

    def test_every_tree_of_up_to_five_places(self):
        for worths, ties in all_trees(5):
            self.tells((worths, ties), tree_of, worths, ties[::-1])

    def test_forty_places(self):
        for worths, ties in large_trees():
            self.tells((worths, ties), tree_of, worths, ties[1::2] + ties[0::2])

    def test_the_tree_keeps_nothing_that_was_handed_in(self):
        worths, ties = [1, 2, 3], [(0, 1, 4), (1, 2, 5)]
        tree = tree_of(worths, ties)
        worths[0] = 99
        ties.reverse()
        ties.pop()
        self.same(tree, ([1, 2, 3], [(0, 1, 4), (1, 2, 5)]))
        tree[0].append(7)
        tree[1].clear()
        self.same((worths, ties), ([99, 2, 3], [(1, 2, 5)]))


class TreesRefused(SeatCase):
    def test_no_worths(self):
        self.refuses("NoTree", tree_of, [], [])
        self.refuses("NoTree", tree_of, [], [(0, 1, 5)])

    def test_a_tie_too_many(self):
        self.refuses("NoTree", tree_of, [1], [(0, 1, 5)])
        self.refuses("NoTree", tree_of, [1], [(0, 0, 5)])
        self.refuses("NoTree", tree_of, [1, 2, 3], [(0, 1, 5), (0, 2, 5), (1, 2, 5)])

    def test_a_tie_too_few(self):
        self.refuses("NoTree", tree_of, [1, 2], [])
        self.refuses("NoTree", tree_of, [1, 2, 3], [(0, 1, 5)])

    def test_a_tie_told_twice(self):
        self.refuses("NoTree", tree_of, [1, 2], [(0, 1, 5), (0, 1, 5)])
        self.refuses("NoTree", tree_of, [1, 2], [(0, 1, 5), (0, 1, 6)])
        self.refuses("NoTree", tree_of, [1, 2, 3], [(0, 1, 5), (0, 1, 5)])
        self.refuses("NoTree", tree_of, [1, 2, 3], [(0, 1, 5), (0, 1, 6)])
        self.refuses("NoTree", tree_of, [1, 2, 3], [(1, 2, 5), (0, 1, 5), (1, 2, 5)])

    def test_a_tie_with_its_places_exchanged(self):
        self.refuses("NoTree", tree_of, [1, 2], [(1, 0, 5)])
        self.refuses("NoTree", tree_of, [1, 2, 3], [(0, 1, 5), (2, 1, 5)])

    def test_a_tie_of_one_place(self):
        self.refuses("NoTree", tree_of, [1, 2], [(0, 0, 5)])
        self.refuses("NoTree", tree_of, [1, 2], [(1, 1, 5)])
        self.refuses("NoTree", tree_of, [1, 2, 3], [(0, 1, 5), (2, 2, 5)])

    def test_a_tie_of_no_place(self):
        for place in (-1, -2, -FAR):
            self.refuses("NoTree", tree_of, [1, 2], [(place, 0, 5)])
            self.refuses("NoTree", tree_of, [1, 2], [(place, 1, 5)])
            self.refuses("NoTree", tree_of, [1, 2, 3], [(0, 1, 5), (place, 2, 5)])
        for place in (2, 3, FAR):
            self.refuses("NoTree", tree_of, [1, 2], [(0, place, 5)])
            self.refuses("NoTree", tree_of, [1, 2], [(1, place, 5)])

    def test_places_that_cannot_be_come_to(self):
        self.refuses("NoTree", tree_of, [1] * 4, [(0, 1, 5), (0, 2, 5), (1, 2, 5)])
        self.refuses("NoTree", tree_of, [1] * 4, [(1, 2, 5), (1, 3, 5), (2, 3, 5)])
        self.refuses("NoTree", tree_of, [1] * 6, [(0, 1, 5), (2, 3, 5), (3, 4, 5), (4, 5, 5), (2, 5, 5)])

    def test_just_the_trees_among_all_lists_of_ties(self):
        pairs = list(itertools.combinations(range(4), 2))
        trees = [[(a, b) for a, b, _ in ties] for worths, ties in all_trees(4) if len(worths) == 4]
        self.assertEqual(len(trees), 16)
        for many in range(len(pairs) + 1):
            for chosen in itertools.combinations(pairs, many):
                ties = [(a, b, -1) for a, b in chosen]
                if list(chosen) in trees:
                    self.tells(([0] * 4, ties), tree_of, [0] * 4, ties)
                else:
                    self.refuses("NoTree", tree_of, [0] * 4, ties)


class Neighbours(SeatCase):
    def test_they_rise(self):
        for place, near in enumerate([[2, 3, 4], [3], [0], [0, 1], [0]]):
            self.tells(near, tied_to, BENT, place)
        many = ([0] * 12, sorted([(place, 11, 0) for place in range(5, 11)] + [(place, 5, 0) for place in range(5)]))
        self.tells([0, 1, 2, 3, 4, 11], tied_to, many, 5)
        self.tells([5, 6, 7, 8, 9, 10], tied_to, many, 11)

    def test_one_place_has_none(self):
        self.tells([], tied_to, ([3], []), 0)

    def test_in_every_small_tree_and_in_large_ones(self):
        for tree in list(all_trees(5)) + large_trees():
            for place in range(len(tree[0])):
                self.tells(neighbours_by_hand(tree, place), tied_to, tree, place)

    def test_refused_of_no_place(self):
        for tree in (([3], []), BENT, path_tree(40)):
            for place in no_places(len(tree[0])):
                self.refuses("NoPlace", tied_to, tree, place)


class Ways(SeatCase):
    def test_there_and_back(self):
        self.tells(([2, 0, 3, 1], 106), way_between, BENT, 2, 1)
        self.tells(([1, 3, 0, 2], 106), way_between, BENT, 1, 2)
        self.tells(([4, 0, 3], -3), way_between, BENT, 4, 3)
        self.tells(([0, 3], -4), way_between, BENT, 0, 3)

    def test_from_a_place_to_itself(self):
        for place in range(5):
            self.tells(([place], 0), way_between, BENT, place, place)
        self.tells(([0], 0), way_between, ([-8], []), 0, 0)

    def test_the_length_of_thirty_figures(self):
        tree = ([0, 0, 0], [(0, 1, FAR), (1, 2, -3)])
        self.tells(([2, 1, 0], FAR - 3), way_between, tree, 2, 0)

    def test_through_all_forty_places(self):
        tree = path_tree(40)
        length = sum(at * at - 9 for at in range(39))
        self.tells((list(range(40)), length), way_between, tree, 0, 39)
        self.tells((list(range(39, -1, -1)), length), way_between, tree, 39, 0)

    def test_in_every_small_tree_and_in_large_ones(self):
        for tree in list(all_trees(5)) + large_trees()[1:]:
            places = range(len(tree[0]))
            for one, other in itertools.product(places, places[::3]):
                self.is_way(tree, one, other)

    def is_way(self, tree, one, other):
        places, length = way_between(tree, one, other)
        self.assertEqual((places[0], places[-1]), (one, other))
        self.assertEqual(len(set(places)), len(places))
        lengths = [length_by_hand(tree, a, b) for a, b in zip(places, places[1:])]
        self.same(length, sum(lengths))

    def test_refused_of_no_place(self):
        for tree in (([3], []), BENT):
            for place in no_places(len(tree[0])):
                self.refuses("NoPlace", way_between, tree, place, 0)
                self.refuses("NoPlace", way_between, tree, 0, place)
                self.refuses("NoPlace", way_between, tree, place, place)


class Turned(SeatCase):
    def test_place_k_is_what_stands_at_k(self):
        # new 0 is old 2, 1 is 4, 2 is 0, 3 is 1, 4 is 3
        turned = ([7, 8, 5, -6, 0], [(0, 2, 10), (1, 2, 1), (2, 4, -4), (3, 4, 100)])
        self.tells(turned, turned_tree, BENT, [2, 4, 0, 1, 3])
        self.tells(([1, 2, 3], [(0, 1, 4), (0, 2, 5)]), turned_tree, ([3, 1, 2], [(0, 1, 5), (1, 2, 4)]), [1, 2, 0])

    def test_as_it_stands(self):
        self.tells(BENT, turned_tree, BENT, [0, 1, 2, 3, 4])
        self.tells(([3], []), turned_tree, ([3], []), [0])

    def test_each_order_of_each_small_tree(self):
        for tree in all_trees(4):
            for order in itertools.permutations(range(len(tree[0]))):
                self.is_turned(tree, list(order))

    def test_forty_places(self):
        for tree in large_trees():
            many = len(tree[0])
            self.is_turned(tree, [(place * 9 + 4) % many for place in range(many)])

    def is_turned(self, tree, order):
        told = turned_tree(tree, order)
        ties = sorted(tuple(sorted((order.index(a), order.index(b)))) + (length,) for a, b, length in tree[1])
        self.same(told, ([tree[0][old] for old in order], ties))
        self.tells(told, tree_of, told[0], told[1][::-1])
        back = [order.index(old) for old in range(len(order))]
        self.tells(tree, turned_tree, told, back)

    def test_refused_of_no_order(self):
        for order in ([], [0], [0, 1, 2, 3], [1, 2, 3, 4], [0, 1, 2, 3, 3], [0, 0, 1, 2, 3, 4],
                      [0, 1, 2, 3, 4, 4], [0, 1, 2, 3, 4, 5], [1, 2, 3, 4, 5], [0, 1, 2, 3, 5],
                      [-1, 0, 1, 2, 3], [-1, 0, 1, 2, 3, 4], [0, 1, 2, 3, -1], [0, 1, 2, 3, FAR],
                      [0, 1, 2, 3, -FAR], [4, 4, 4, 4, 4], [0, 1, 2, 3, 4, FAR]):
            self.refuses("NoOrder", turned_tree, BENT, order)
        for order in ([], [1], [-1], [0, 0], [0, 1]):
            self.refuses("NoOrder", turned_tree, ([3], []), order)

    def test_a_way_may_be_an_order(self):
        tree = path_tree(4)
        order = way_between(tree, 3, 0)[0]
        self.is_turned(tree, order)


if __name__ == "__main__":
    unittest.main()
