"""Points 24 and 25: the middle, the hub, the balance, and how far each place is from each."""

import unittest

from everyseat.middles import balance, far_table, hub, middle
from everyseat.trees import way_between
from tests.helper import (
    FAR, SeatCase, all_trees, branches_by_hand, bushy_tree, large_trees, large_trees_in_other_orders, lengths_by_hand,
    path_tree, star_tree, varied, with_lengths_from_nothing_on, with_numbers)

ALONE = ([6], [])


def table_by_hand(tree):
    places = range(len(tree[0]))
    return [[lengths_by_hand(tree, place)[other] for other in places] for place in places]


def least_of(numbers):
    return [place for place, number in enumerate(numbers) if all(number <= other for other in numbers)]


def parts_without(tree, place):
    """The lists of places that hang together when the place and its ties are taken out."""
    left = [other for other in range(len(tree[0])) if other != place]
    ties = [pair for pair in branches_by_hand(tree) if place not in pair]
    parts = []
    while left:
        part = left[:1]
        for here in part:
            part.extend(other for one, other in ties if one == here and other not in part)
        parts.append(part)
        left = [other for other in left if other not in part]
    return parts


def balance_by_hand(tree):
    return least_of([max(map(len, parts_without(tree, place)), default=0) for place in range(len(tree[0]))])


class MiddleAndHub(SeatCase):
    def test_a_row(self):
        # Lengths 1, 1, 1, 9: the farthest place is 9 off from place 3, and all ways are least from place 2.
        tree = ([0] * 5, [(0, 1, 1), (1, 2, 1), (2, 3, 1), (3, 4, 9)])
        self.tells([3], middle, tree)
        self.tells([2], hub, tree)

    def test_several_places(self):
        tree = ([4, 4, 4, 4], [(0, 1, 5), (1, 2, 5), (2, 3, 5)])
        self.tells([1, 2], middle, tree)
        self.tells([1, 2], hub, tree)

    def test_lengths_of_nothing(self):
        # Places 1, 2 and 4 stand at one spot.
        tree = ([0] * 5, [(0, 1, 3), (1, 2, 0), (2, 3, 3), (2, 4, 0)])
        self.tells([1, 2, 4], middle, tree)
        self.tells([1, 2, 4], hub, tree)
        self.tells([0, 1, 2], middle, ([1, 2, 3], [(0, 2, 0), (1, 2, 0)]))
        self.tells([0, 1, 2], hub, ([1, 2, 3], [(0, 2, 0), (1, 2, 0)]))

    def test_worths_do_not_count(self):
        for worths in ([9, -9, 0], [0, 0, 0], [-5, 5, FAR]):
            self.tells([1], middle, (worths, [(0, 1, 2), (1, 2, 2)]))
            self.tells([1], hub, (worths, [(0, 1, 2), (1, 2, 2)]))

    def test_one_place_and_two(self):
        self.tells([0], middle, ALONE)
        self.tells([0], hub, ALONE)
        for length in (0, 1, FAR):
            self.tells([0, 1], middle, ([1, 2], [(0, 1, length)]))
            self.tells([0, 1], hub, ([1, 2], [(0, 1, length)]))

    def test_against_going_through_all_places(self):
        for small in all_trees(5):
            for lengths in ([1], [0, 2], [3, 1, 0], [FAR, 1, FAR - 1]):
                tree = with_numbers(small, [1, -1], lengths)
                table = table_by_hand(tree)
                self.same(middle(tree), least_of([max(row) for row in table]))
                self.same(hub(tree), least_of([sum(row) for row in table]))

    def test_large_trees(self):
        for large in large_trees() + large_trees_in_other_orders():
            for tree in (with_lengths_from_nothing_on(large), with_numbers(large, [0], [1, 0, 2])):
                ways = [[way_between(tree, one, other)[1] for other in range(len(tree[0]))]
                        for one in range(len(tree[0]))]
                self.tells(least_of([max(row) for row in ways]), middle, tree)
                self.tells(least_of([sum(row) for row in ways]), hub, tree)

    def test_a_length_below_nothing_is_refused(self):
        for lengths in ([-1], [3, -1], [0, 0, -FAR]):
            tree = with_numbers(path_tree(5), [1], lengths)
            self.refuses("NoLength", middle, tree)
            self.refuses("NoLength", hub, tree)
        for at in range(4):
            tree = ([1] * 5, [(0, place + 1, -2 if place == at else 2) for place in range(4)])
            self.refuses("NoLength", middle, tree)
            self.refuses("NoLength", hub, tree)


class Balance(SeatCase):
    def test_one_place_and_two(self):
        self.tells([0], balance, ALONE)
        self.tells([0, 1], balance, ([1, 2], [(0, 1, 7)]))

    def test_a_row_and_a_star(self):
        self.tells([2], balance, path_tree(5))
        self.tells([2, 3], balance, path_tree(6))
        self.tells([4], balance, star_tree(7, 4))

    def test_places_count_and_no_lengths(self):
        # A row of three with the star of 3 at its end: without 3 the greatest part has 3 places.
        ties = [(0, 1, 50), (1, 2, 50), (2, 3, 50), (3, 4, 0), (3, 5, 1), (3, 6, 1)]
        self.tells([3], balance, ([0] * 7, ties))

    def test_against_going_through_all_places(self):
        for small in all_trees(5):
            self.tells(balance_by_hand(small), balance, small)
        for many in (6, 7, 8, 9):
            for tree in (path_tree(many), star_tree(many, 1), bushy_tree(many)):
                self.tells(balance_by_hand(tree), balance, tree)

    def test_large_trees(self):
        for tree in large_trees() + large_trees_in_other_orders():
            self.same(balance(tree), balance_by_hand(tree))

    def test_it_is_told_with_lengths_below_nothing(self):
        for tree in varied(path_tree(5)):
            self.tells([2], balance, tree)


class FarTable(SeatCase):
    def test_one_place_and_two(self):
        self.tells([[0]], far_table, ALONE)
        self.tells([[0, -7], [-7, 0]], far_table, ([1, 2], [(0, 1, -7)]))

    def test_a_row(self):
        tree = ([0] * 4, [(0, 1, 2), (1, 2, -5), (2, 3, 1)])
        self.tells([[0, 2, -3, -2], [2, 0, -5, -4], [-3, -5, 0, 1], [-2, -4, 1, 0]], far_table, tree)

    def test_by_hand(self):
        for small in all_trees(4):
            for tree in varied(small):
                self.tells(table_by_hand(tree), far_table, tree)

    def test_as_the_ways_tell_it(self):
        for tree in large_trees() + large_trees_in_other_orders():
            places = range(len(tree[0]))
            ways = [[way_between(tree, one, other)[1] for other in places] for one in places]
            self.same(far_table(tree), ways)


if __name__ == "__main__":
    unittest.main()
