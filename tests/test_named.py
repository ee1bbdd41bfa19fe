"""Points 17 and 18, with 2, 3, 4 and 8: named rules, by what their plain words say."""

import itertools
import unittest

from everyseat.branches import seat_worth
from everyseat.named import rule_named, rule_names
from everyseat.rules import is_rule
from everyseat.seats import all_seats
from tests.helper import (
    FAR, SeatCase, all_trees, are_apart, hang_together, large_trees, large_trees_in_other_orders, lengths_by_hand,
    lists_of_places, path_tree, star_tree, sum_of_worths, varied, with_lengths_from_nothing_on, with_numbers,
)

NAMES = ["apart", "best", "farthest", "piece", "pieces", "sum"]


def sets_apart(tree):
    return [places for places in lists_of_places(tree) if are_apart(tree, places)]


def pieces_with(tree, seat):
    return [places for places in lists_of_places(tree) if seat in places and hang_together(tree, places)]


PLAIN_WORDS = {
    "farthest": lambda tree, seat: max(lengths_by_hand(tree, seat).values()),
    "sum": lambda tree, seat: sum(lengths_by_hand(tree, seat).values()),
    "apart": lambda tree, seat: len(sets_apart(tree)),
    "best": lambda tree, seat: max(sum_of_worths(tree, places) for places in sets_apart(tree)),
    "piece": lambda tree, seat: max(sum_of_worths(tree, places) for places in pieces_with(tree, seat)),
    "pieces": lambda tree, seat: len(pieces_with(tree, seat)),
}


class Names(SeatCase):
    def test_they_are_sorted(self):
        self.tells(NAMES, rule_names)

    def test_each_names_a_rule(self):
        for name in rule_names():
            rule = rule_named(name)
            self.assertIs(type(rule), tuple)
            self.assertEqual([type(part) for part in rule], [list, list, list, tuple])
            self.tells(True, is_rule, rule)

    def test_each_rule_is_new_down_to_its_lists(self):
        for name in NAMES:
            self.tells(rule_named(name), rule_named, name)

    def test_a_rule_that_was_changed_changes_nothing(self):
        tree = path_tree(5)
        for name in NAMES:
            worths = all_seats(tree, rule_named(name))
            rule = rule_named(name)
            for part in rule[:3]:
                part[0] = ("number", 77)
            self.same(all_seats(tree, rule_named(name)), worths)

    def test_other_names_are_refused(self):
        names = ["", " ", "far", "farthests", "Farthest", "FARTHEST", "Sum", "SUM", "sums", "Apart", "bEst", "bests",
                 "Piece", "PIECES", "piecess", " sum", "sum ", "sum\n", "\nsum", "sum best", "is", "0", "own", "tie"]
        names += [name[:at] + name[at].upper() + name[at + 1:] for name in NAMES for at in range(len(name))]
        names += [name[:at] for name in NAMES for at in range(len(name)) if name[:at] not in NAMES]
        for name in names:
            self.refuses("NoName", rule_named, name)


class PlainWords(SeatCase):
    def says(self, name, tree):
        told = [PLAIN_WORDS[name](tree, seat) for seat in range(len(tree[0]))]
        self.same(all_seats(tree, rule_named(name)), told)

    def test_one_place_alone(self):
        for worth in (5, 0, -5, FAR, -FAR):
            for name, told in (("farthest", 0), ("sum", 0), ("apart", 2), ("best", max(0, worth)),
                               ("piece", worth), ("pieces", 1)):
                self.tells([told], all_seats, ([worth], []), rule_named(name))
                self.same(PLAIN_WORDS[name](([worth], []), 0), told)

    def test_a_fork(self):
        # 3 - 1 - 0 - 2, and 4 at 1
        tree = ([4, -3, 0, 5, -1], [(0, 1, 10), (0, 2, 0), (1, 3, 30), (1, 4, 40)])
        for name, told in (("farthest", [50, 40, 50, 70, 70]), ("sum", [100, 90, 100, 180, 210]),
                           ("apart", [14] * 5), ("best", [9] * 5), ("piece", [6, 6, 6, 6, 5]),
                           ("pieces", [10, 12, 6, 7, 7])):
            self.tells(told, all_seats, tree, rule_named(name))
            self.says(name, tree)

    def test_every_small_tree_but_for_farthest(self):
        for name in NAMES:
            if name != "farthest":
                for tree in all_trees(4):
                    for changed in varied(tree):
                        self.says(name, changed)
                for tree in all_trees(5):
                    self.says(name, tree)

    def test_farthest_in_every_small_tree_with_lengths_from_nothing_on(self):
        for tree in all_trees(5):
            for changed in varied(tree):
                self.says("farthest", with_lengths_from_nothing_on(changed))

    def test_every_choice_of_worths(self):
        ties = ([(0, 1, 1), (1, 2, 1), (2, 3, 1)], [(0, 2, 1), (1, 2, 1), (2, 3, 1)], [(0, 3, 1), (1, 2, 1), (2, 3, 1)])
        for name, worths, some in itertools.product(("best", "piece"), itertools.product((-2, 0, 1), repeat=4), ties):
            self.says(name, (list(worths), some))

    def test_every_choice_of_lengths(self):
        for lengths in itertools.product((-2, 0, 1), repeat=3):
            for tree in all_trees(4):
                changed = with_numbers(tree, [1], lengths)
                self.says("sum", changed)
                self.says("farthest", with_lengths_from_nothing_on(changed))

    def test_trees_of_nine_places(self):
        for tree in (path_tree(9), star_tree(9, 4)):
            for name in NAMES:
                self.says(name, with_lengths_from_nothing_on(tree))
                self.says(name, with_numbers(tree, [3, -1, 0, -4, 2], [0, FAR, 5]))

    def test_ways_in_forty_places(self):
        for tree in large_trees() + large_trees_in_other_orders():
            self.says("sum", tree)
            self.says("farthest", with_lengths_from_nothing_on(tree))

    def test_sets_in_forty_places(self):
        path, star = with_numbers(path_tree(40), [1], [1]), with_numbers(star_tree(40, 17), [1], [1])
        apart = [1, 2]
        for _ in range(39):
            apart.append(apart[-1] + apart[-2])
        self.same(all_seats(path, rule_named("apart")), [apart[40]] * 40)
        self.same(all_seats(star, rule_named("apart")), [2 ** 39 + 1] * 40)
        self.same(all_seats(path, rule_named("best")), [20] * 40)
        self.same(all_seats(star, rule_named("best")), [39] * 40)
        self.same(all_seats(path, rule_named("piece")), [40] * 40)
        self.same(all_seats(path, rule_named("pieces")), [(at + 1) * (40 - at) for at in range(40)])
        self.same(seat_worth(star, rule_named("pieces"), 17), 2 ** 39)
        self.same(seat_worth(star, rule_named("pieces"), 3), 2 ** 38 + 1)

    def test_apart_and_best_are_alike_for_all_seats(self):
        for tree in large_trees() + large_trees_in_other_orders():
            for name in ("apart", "best"):
                worths = all_seats(tree, rule_named(name))
                self.same(worths, worths[:1] * len(worths))


if __name__ == "__main__":
    unittest.main()
