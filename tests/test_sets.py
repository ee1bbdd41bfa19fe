"""Points 19 and 20, with 2, 3 and 4: the sets and the ends that are told."""

import copy
import itertools
import unittest

from everyseat.named import rule_named
from everyseat.seats import all_seats
from everyseat.sets import best_piece, best_set, farthest_place, longest_ends
from tests.helper import (
    FAR, SeatCase, all_trees, are_apart, bushy_tree, hang_together, large_trees, large_trees_in_other_orders,
    lengths_by_hand, lists_of_places, numbered_anew, path_tree, star_tree, sum_of_worths, varied,
    with_lengths_from_nothing_on, with_numbers,
)

FORK_TIES = [(0, 1, 10), (0, 2, 20), (1, 3, 30), (1, 4, 40)]


def no_places(many):
    return [-1, -2, -many, -many - 1, -FAR, many, many + 1, FAR]


def first_of_the_best(tree, lists):
    greatest = max(sum_of_worths(tree, places) for places in lists)
    return min(places for places in lists if sum_of_worths(tree, places) == greatest)


def best_set_by_hand(tree):
    return first_of_the_best(tree, [places for places in lists_of_places(tree) if are_apart(tree, places)])


def best_pieces_by_hand(tree):
    """The first best piece of each seat, seat by seat."""
    pieces = [places for places in lists_of_places(tree) if hang_together(tree, places)]
    return [first_of_the_best(tree, [places for places in pieces if seat in places]) for seat in range(len(tree[0]))]


def farthest_by_hand(tree, seat):
    lengths = lengths_by_hand(tree, seat)
    return min(place for place in lengths if lengths[place] == max(lengths.values()))


def ends_by_hand(tree):
    ways = {(seat, place): length for seat in range(len(tree[0]))
            for place, length in lengths_by_hand(tree, seat).items() if seat <= place}
    return min(ends for ends in ways if ways[ends] == max(ways.values()))


def trees_with_every_choice(most, worths):
    """Every tree of up to so many places with every choice of these worths."""
    for tree in all_trees(most):
        for choice in itertools.product(worths, repeat=len(tree[0])):
            yield list(choice), tree[1]


def trees_of_nine_places():
    for tree in (path_tree(9), star_tree(9, 4), bushy_tree(9)):
        for order in (list(range(9)), [(place * 4 + 1) % 9 for place in range(9)], [5, 0, 8, 2, 7, 1, 3, 6, 4]):
            for changed in varied(tree):
                yield numbered_anew(changed, order)


class BestSets(SeatCase):
    def test_the_first_where_several_have_the_greatest_sum(self):
        path = [(0, 1, 1), (1, 2, 1), (2, 3, 1)]
        self.tells([0, 2], best_set, ([1, 1, 1, 1], path))
        self.tells([0, 3], best_set, ([1, 1, 0, 1], path))
        self.tells([0, 3], best_set, ([0, 1, 0, 1], path[:1] + [(0, 2, 1), (1, 3, 1)]))
        self.tells([0, 1, 2], best_set, ([0, 0, 5, 0], [(0, 3, 1), (1, 3, 1), (2, 3, 1)]))
        self.tells([0], best_set, ([5, 0, 0, 5], [(0, 1, 1), (0, 2, 1), (0, 3, 1)]))

    def test_a_list_stands_ahead_of_those_that_go_on_from_it(self):
        self.tells([0], best_set, ([5, -1, 0], [(0, 1, 1), (1, 2, 1)]))
        self.tells([0, 2], best_set, ([0, -1, 5], [(0, 1, 1), (1, 2, 1)]))
        self.tells([], best_set, ([0, -1, 0], [(0, 1, 1), (1, 2, 1)]))

    def test_nothing_where_no_worth_is_above_nothing(self):
        for worths in itertools.product((0, -1, -FAR), repeat=5):
            self.tells([], best_set, (list(worths), FORK_TIES))

    def test_one_place_alone(self):
        for worth, told in ((3, [0]), (FAR, [0]), (0, []), (-3, [])):
            self.tells(told, best_set, ([worth], []))

    def test_against_all_sets(self):
        for tree in trees_with_every_choice(4, (-1, 0, 1)):
            self.tells(best_set_by_hand(tree), best_set, tree)
        for tree in trees_with_every_choice(4, (0, 1, 2)):
            self.same(best_set(tree), best_set_by_hand(tree))
        for tree in all_trees(5):
            for changed in varied(tree):
                self.same(best_set(changed), best_set_by_hand(changed))

    def test_against_all_sets_of_nine_places(self):
        for tree in trees_of_nine_places():
            self.same(best_set(tree), best_set_by_hand(tree))

    def test_forty_places(self):
        self.tells(list(range(0, 40, 2)), best_set, with_numbers(path_tree(40), [1], [1]))
        self.tells(list(range(1, 40, 2)), best_set, with_numbers(path_tree(40), [0, 1], [1]))
        self.tells(list(range(1, 40)), best_set, with_numbers(star_tree(40, 0), [1], [1]))
        self.tells([], best_set, with_numbers(star_tree(40, 0), [0, -1], [1]))

    def test_it_has_the_worth_that_best_tells(self):
        for tree in large_trees() + large_trees_in_other_orders():
            places = best_set(tree)
            self.assertEqual(places, sorted(set(places)))
            self.assertTrue(are_apart(tree, places))
            self.same(sum_of_worths(tree, places), all_seats(tree, rule_named("best"))[0])


class BestPieces(SeatCase):
    def test_the_first_where_several_have_the_greatest_sum(self):
        path = [(0, 1, 1), (1, 2, 1)]
        self.tells([0, 1], best_piece, ([0, 5, 0], path), 1)
        self.tells([0], best_piece, ([0, 0, 0], path), 0)
        self.tells([0, 1, 2], best_piece, ([0, 0, 0], path), 2)
        self.tells([0, 1, 2], best_piece, ([1, -1, 4], path), 2)
        self.tells([0, 2, 3], best_piece, ([0, -1, 0, 5], [(0, 2, 1), (1, 2, 1), (2, 3, 1)]), 3)

    def test_a_list_stands_ahead_of_those_that_go_on_from_it(self):
        self.tells([0], best_piece, ([5, 0, -1], [(0, 1, 1), (1, 2, 1)]), 0)
        self.tells([0], best_piece, ([5, -1, 1], [(0, 1, 1), (1, 2, 1)]), 0)
        self.tells([0, 1], best_piece, ([5, 0, -1], [(0, 1, 1), (1, 2, 1)]), 1)

    def test_the_seat_is_in_it_whatever_its_worth(self):
        self.tells([2], best_piece, ([-1, -1, -FAR], [(0, 1, 1), (1, 2, 1)]), 2)
        self.tells([0, 1, 2], best_piece, ([1, 1, -FAR], [(0, 1, 1), (1, 2, 1)]), 2)

    def test_one_place_alone(self):
        for worth in (3, 0, -3, FAR, -FAR):
            self.tells([0], best_piece, ([worth], []), 0)

    def test_against_all_pieces(self):
        for tree in trees_with_every_choice(4, (-1, 0, 1)):
            for seat, places in enumerate(best_pieces_by_hand(tree)):
                self.same(best_piece(tree, seat), places)
        for tree in all_trees(5):
            for changed in varied(tree):
                for seat, places in enumerate(best_pieces_by_hand(changed)):
                    self.same(best_piece(changed, seat), places)

    def test_told_anew_each_time(self):
        for tree in all_trees(4):
            for seat, places in enumerate(best_pieces_by_hand(tree)):
                self.tells(places, best_piece, tree, seat)

    def test_against_all_pieces_of_nine_places(self):
        for tree in trees_of_nine_places():
            for seat, places in enumerate(best_pieces_by_hand(tree)):
                self.same(best_piece(tree, seat), places)

    def test_forty_places(self):
        path, star = with_numbers(path_tree(40), [0], [1]), with_numbers(star_tree(40, 0), [0], [1])
        for seat in (0, 1, 20, 39):
            self.tells(list(range(seat + 1)), best_piece, path, seat)
            self.tells(list(range(seat + 1)), best_piece, star, seat)
        self.tells(list(range(40)), best_piece, with_numbers(path_tree(40), [1], [1]), 7)
        self.tells([7], best_piece, with_numbers(path_tree(40), [-1], [1]), 7)

    def test_it_has_the_worth_that_piece_tells(self):
        for tree in large_trees() + large_trees_in_other_orders():
            for seat, worth in enumerate(all_seats(tree, rule_named("piece"))):
                places = best_piece(tree, seat)
                self.assertIn(seat, places)
                self.assertEqual(places, sorted(set(places)))
                self.assertTrue(hang_together(tree, places))
                self.same(sum_of_worths(tree, places), worth)

    def test_a_seat_that_is_no_place_is_refused(self):
        for tree in (([3], []), ([1, 2, -3, 0, 5], FORK_TIES), path_tree(40)):
            for seat in no_places(len(tree[0])):
                self.refuses("NoPlace", best_piece, tree, seat)


class FarthestPlaces(SeatCase):
    def test_the_least_where_several_are_as_far(self):
        tree = ([0] * 5, FORK_TIES)
        for seat, place in enumerate([4, 4, 4, 4, 2]):
            self.tells(place, farthest_place, tree, seat)
        star = ([0] * 4, [(0, 1, 5), (0, 2, 5), (0, 3, 5)])
        for seat, place in enumerate([1, 2, 1, 1]):
            self.tells(place, farthest_place, star, seat)

    def test_lengths_of_nothing(self):
        for tree in all_trees(4):
            for seat in range(len(tree[0])):
                self.tells(0, farthest_place, with_numbers(tree, [1], [0]), seat)
        tree = ([0] * 4, [(0, 1, 0), (1, 2, 0), (2, 3, 4)])
        for seat, place in enumerate([3, 3, 3, 0]):
            self.tells(place, farthest_place, tree, seat)

    def test_one_place_alone(self):
        self.tells(0, farthest_place, ([-3], []), 0)

    def test_against_all_ways(self):
        for tree in all_trees(5):
            for changed in varied(tree):
                changed = with_lengths_from_nothing_on(changed)
                for seat in range(len(tree[0])):
                    self.same(farthest_place(changed, seat), farthest_by_hand(changed, seat))
        for lengths in itertools.product((0, 1, 2), repeat=3):
            for tree in all_trees(4):
                changed = with_numbers(tree, [1], lengths)
                for seat in range(len(tree[0])):
                    self.same(farthest_place(changed, seat), farthest_by_hand(changed, seat))

    def test_forty_places(self):
        path = with_numbers(path_tree(40), [1], [0, 3, 0])
        for seat, place in ((0, 38), (19, 38), (20, 0), (39, 0)):
            self.tells(place, farthest_place, path, seat)
            self.same(place, farthest_by_hand(path, seat))
        for tree in large_trees() + large_trees_in_other_orders():
            tree = with_lengths_from_nothing_on(tree)
            for seat in range(0, len(tree[0]), 3):
                self.same(farthest_place(tree, seat), farthest_by_hand(tree, seat))


class LongestEnds(SeatCase):
    def test_the_first_where_several_ways_are_as_long(self):
        self.tells((3, 4), longest_ends, ([0] * 5, [(0, 1, 10), (0, 2, 10), (1, 3, 30), (1, 4, 40)]))
        self.tells((2, 4), longest_ends, ([0] * 5, FORK_TIES))
        self.tells((1, 2), longest_ends, ([0] * 4, [(0, 1, 5), (0, 2, 5), (0, 3, 5)]))
        self.tells((0, 1), longest_ends, ([0] * 4, [(0, 3, 5), (1, 3, 5), (2, 3, 5)]))

    def test_lengths_of_nothing(self):
        for tree in all_trees(4):
            self.tells((0, 0), longest_ends, with_numbers(tree, [1], [0]))
        self.tells((0, 3), longest_ends, ([0] * 4, [(0, 1, 0), (1, 2, 0), (2, 3, 4)]))
        self.tells((0, 1), longest_ends, ([0] * 4, [(0, 1, 4), (1, 2, 0), (2, 3, 0)]))

    def test_one_place_alone(self):
        self.tells((0, 0), longest_ends, ([-3], []))

    def test_against_all_ways(self):
        for tree in all_trees(5):
            for changed in varied(tree):
                changed = with_lengths_from_nothing_on(changed)
                self.same(longest_ends(changed), ends_by_hand(changed))
        for lengths in itertools.product((0, 1, 2), repeat=3):
            for tree in all_trees(4):
                changed = with_numbers(tree, [1], lengths)
                self.tells(ends_by_hand(changed), longest_ends, changed)

    def test_the_length_is_the_greatest_of_the_farthest(self):
        for tree in large_trees() + large_trees_in_other_orders():
            tree = with_lengths_from_nothing_on(tree)
            a, b = longest_ends(tree)
            self.same((a, b), ends_by_hand(tree))
            self.same(lengths_by_hand(tree, a)[b], max(all_seats(tree, rule_named("farthest"))))


class LengthsBelowNothing(SeatCase):
    def test_refused_wherever_the_length_stands(self):
        for tree, below in itertools.product(all_trees(4), (-1, -FAR)):
            for at in range(len(tree[1])):
                lengths = [3, 0, 5]
                lengths[at] = below
                changed = with_numbers(tree, [1], lengths)
                self.refuses("NoLength", longest_ends, changed)
                for seat in range(len(tree[0])):
                    self.refuses("NoLength", farthest_place, changed, seat)

    def test_no_place_goes_first(self):
        for lengths in ([-1], [0], [5], [3, -FAR]):
            for tree in (([3], []), path_tree(40), ([0] * 5, FORK_TIES)):
                for seat in no_places(len(tree[0])):
                    self.refuses("NoPlace", farthest_place, with_numbers(tree, [1], lengths), seat)


class NothingIsKept(SeatCase):
    def test_a_tree_that_was_changed_is_told_as_it_is_now(self):
        tree = copy.deepcopy(([4, -3, 0, 5, -1], FORK_TIES))
        told = best_set(tree), best_piece(tree, 1)
        ends = farthest_place(tree, 0), longest_ends(tree)
        self.same((told, ends), (([0, 3], [0, 1, 2, 3]), (4, (2, 4))))
        tree[0][4] = 9
        tree[1][3] = (1, 4, 0)
        self.same((best_set(tree), best_piece(tree, 1)), ([0, 3, 4], [0, 1, 2, 3, 4]))
        self.same((farthest_place(tree, 0), longest_ends(tree)), (3, (2, 3)))
        self.same((told, ends), (([0, 3], [0, 1, 2, 3]), (4, (2, 4))))


if __name__ == "__main__":
    unittest.main()
